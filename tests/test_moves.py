"""Points 7 to 10: turns, exchanges, corners put in and taken out, moves; point 2 as far as it bears on them."""

import unittest

from rookborders.crossings import ties_of
from rookborders.errors import NoMove, RookError, TooMany
from rookborders.moves import (
    columns_changed, columns_turned, corner_put, corner_taken, move_back, moved, rows_changed, rows_turned, tipped,
)
from rookborders.squares import is_square, lines_of
from second_look import (
    EIGHT, PLAIN, THREEFOIL, THREE_LINES, TIED, carried, exchange_looked, few_of_six, gone_round, moves_within,
    put_looked, rows_exchange_looked, some_squares,
)
from walker import all_squares, squares_of, squares_up_to

FAR = (99, -99, 12345678901, -12345678901, 999999999999, -999999999999)
LONG = (12345678901, -12345678901, 99999999999, -99999999999, 10 ** 10, -10 ** 10)


class MovesTest(unittest.TestCase):
    def refused(self, kind, deed, *handed):
        """Refused with the very class: none of the refusals stands under another one."""
        with self.assertRaises(RookError, msg=str(handed)) as taken:
            deed(*handed)
        self.assertIs(type(taken.exception), kind, handed)

    def told(self, found, due, *handed):
        self.assertEqual(found, due, handed)
        self.assertIs(is_square(found), True, handed)


class TurnedTest(MovesTest):
    def test_of_instance(self):
        self.assertEqual(columns_turned(((0, 1, 2), (1, 2, 0)), 1), ((2, 0, 1), (0, 1, 2)))
        self.assertEqual(columns_turned(((0, 1, 2), (1, 2, 0)), -1), ((1, 2, 0), (2, 0, 1)))
        self.assertEqual(rows_turned(((0, 1, 2), (1, 2, 0)), 1), ((1, 2, 0), (2, 0, 1)))
        self.assertEqual(rows_turned(((2, 0, 3, 1), (0, 1, 2, 3)), -1), ((1, 3, 2, 0), (3, 0, 1, 2)))
        # 12345678901 is one more than a number that goes into fours.
        self.assertEqual(columns_turned(((2, 0, 3, 1), (0, 1, 2, 3)), 12345678901), ((1, 2, 0, 3), (3, 0, 1, 2)))
        self.assertEqual(columns_turned(((2, 0, 3, 1), (0, 1, 2, 3)), -12345678901), ((0, 3, 1, 2), (1, 2, 3, 0)))
        self.assertEqual(rows_turned(((2, 0, 3, 1), (0, 1, 2, 3)), 12345678901), ((3, 1, 0, 2), (1, 2, 3, 0)))

    def test_by_small_numbers_as_gone_one_by_one(self):
        for square in some_squares():
            size = len(square[0])
            for k in range(-2 * size - 1, 2 * size + 2):
                columns = carried(square, lambda cell: (gone_round(cell[0], k, size), cell[1]))
                rows = carried(square, lambda cell: (cell[0], gone_round(cell[1], k, size)))
                self.told(columns_turned(square, k), columns, square, k)
                self.told(rows_turned(square, k), rows, square, k)

    def test_by_none_and_by_whole_rounds(self):
        for square in squares_up_to(4) + some_squares():
            size = len(square[0])
            for k in (0, size, -size, 5 * size, size * 10 ** 10, -size * 10 ** 10):
                self.assertEqual(columns_turned(square, k), square)
                self.assertEqual(rows_turned(square, k), square)

    def test_by_eleven_figures(self):
        for square in some_squares():
            size = len(square[0])
            for k in LONG:
                over = k - size * (k // size)
                self.told(columns_turned(square, k), columns_turned(square, over), square, k)
                self.told(rows_turned(square, k), rows_turned(square, over), square, k)

    def test_columns_and_rows_either_first(self):
        for square in some_squares():
            for k, l in ((1, 1), (2, -1), (-3, 2), (5, 7), LONG[:2], LONG[2:4], (0, 3)):
                self.assertEqual(
                    rows_turned(columns_turned(square, k), l), columns_turned(rows_turned(square, l), k), (square, k, l)
                )

    def test_turned_back_it_is_the_square(self):
        for square in squares_up_to(4) + some_squares():
            for k in (1, -1, 2, 3, -5) + LONG:
                self.assertEqual(columns_turned(columns_turned(square, k), -k), square)
                self.assertEqual(rows_turned(rows_turned(square, k), -k), square)


class TippedTest(MovesTest):
    def test_of_instance(self):
        self.assertEqual(tipped(((1, 2, 0), (0, 1, 2))), ((2, 0, 1), (0, 1, 2)))
        self.assertEqual(tipped(((2, 0, 3, 1), (0, 2, 1, 3))), ((1, 3, 0, 2), (0, 2, 1, 3)))

    def test_each_mark_changes_its_places(self):
        for square in squares_up_to(4) + some_squares():
            self.told(tipped(square), carried(square, lambda cell: (cell[1], cell[0])), square)

    def test_twice_it_is_the_square(self):
        for square in squares_up_to(4) + some_squares():
            self.assertEqual(tipped(tipped(square)), square)

    def test_turns_of_columns_become_turns_of_rows(self):
        for square in some_squares():
            for k in (1, -2, LONG[0]):
                self.assertEqual(tipped(columns_turned(square, k)), rows_turned(tipped(square), k))


class ChangedTest(MovesTest):
    def test_of_instance(self):
        # Beside one another, one within the other, and one over the other round about.
        self.assertEqual(columns_changed(((0, 2, 1, 3), (1, 3, 2, 0)), 0), ((2, 0, 1, 3), (3, 1, 2, 0)))
        self.assertEqual(columns_changed(((0, 1, 2, 3), (3, 2, 1, 0)), 0), ((1, 0, 2, 3), (2, 3, 1, 0)))
        self.assertEqual(columns_changed(((1, 0, 3, 2), (2, 3, 0, 1)), 0), ((0, 1, 3, 2), (3, 2, 0, 1)))
        self.assertEqual(rows_changed(((0, 1, 3, 2), (1, 0, 2, 3)), 1), ((0, 2, 3, 1), (2, 0, 1, 3)))

    def test_locked_columns_are_refused(self):
        # Just one of the other's rows lies between.
        self.refused(NoMove, columns_changed, TIED, 0)
        self.refused(NoMove, columns_changed, ((0, 3, 1, 2), (2, 1, 0, 3)), 0)

    def test_columns_with_a_row_in_common_are_refused(self):
        self.refused(NoMove, columns_changed, PLAIN, 0)
        self.refused(NoMove, columns_changed, ((0, 1, 2, 3), (1, 2, 3, 0)), 0)
        self.refused(NoMove, columns_changed, ((0, 1, 2, 3), (3, 0, 1, 2)), 1)
        # Three rows, and none of the other's rows between.
        self.refused(NoMove, columns_changed, ((0, 2, 1, 3), (1, 3, 2, 0)), 1)

    def hold(self, square, c, changed, looked):
        due = looked(square, c)
        if due is None:
            self.refused(NoMove, changed, square, c)
            return 0
        self.told(changed(square, c), due, square, c)
        self.assertEqual(changed(due, c), square, c)
        return 1

    def test_each_c_of_many_squares(self):
        for changed, looked in ((columns_changed, exchange_looked), (rows_changed, rows_exchange_looked)):
            done = 0
            for square in squares_up_to(4) + all_squares(5)[::31] + some_squares():
                for c in range(-3, len(square[0]) + 3):
                    done += self.hold(square, c, changed, looked)
            self.assertGreater(done, 200)

    def test_no_column_at_all(self):
        for square in some_squares():
            size = len(square[0])
            for c in (-1, -2, -size, size - 1, size, size + 1) + FAR:
                self.refused(NoMove, columns_changed, square, c)
                self.refused(NoMove, rows_changed, square, c)


class CornerPutTest(MovesTest):
    def test_of_instance(self):
        self.assertEqual(corner_put(PLAIN, 0, 0), ((0, 2, 1), (2, 1, 0)))
        self.assertEqual(corner_put(PLAIN, 0, 1), ((2, 0, 1), (1, 2, 0)))
        self.assertEqual(corner_put(PLAIN, 0, 2), ((0, 1, 2), (1, 2, 0)))
        self.assertEqual(corner_put(PLAIN, 0, 3), ((1, 0, 2), (2, 1, 0)))
        self.assertEqual(corner_put(PLAIN, 1, 0), ((0, 2, 1), (2, 1, 0)))

    def test_each_column_and_way_as_looked(self):
        for square in squares_up_to(4) + all_squares(5)[::31] + [THREEFOIL]:
            for c in range(len(square[0])):
                for way in range(4):
                    found = corner_put(square, c, way)
                    self.told(found, put_looked(square, c, way), square, c, way)
                    self.assertEqual(len(found[0]), len(square[0]) + 1)
                    self.assertEqual(corner_taken(found, c, square[1][c]), square, (c, way))

    def test_no_column_or_no_way(self):
        for square in some_squares():
            size = len(square[0])
            for c in (-1, -2, -size, size, size + 1) + FAR:
                for way in (0, 1, 2, 3, -1, 4):
                    self.refused(NoMove, corner_put, square, c, way)
            for way in (-1, -2, -4, 4, 5, 8) + FAR:
                for c in range(size):
                    self.refused(NoMove, corner_put, square, c, way)

    def test_six_are_too_many_behind_that(self):
        for square in few_of_six():
            for c in range(6):
                for way in range(4):
                    self.refused(TooMany, corner_put, square, c, way)
            for c, way in ((-1, 0), (6, 3), (0, -1), (5, 4), (-1, -1), (6, 4), (FAR[0], 0), (0, FAR[1])):
                self.refused(NoMove, corner_put, square, c, way)


class CornerTakenTest(MovesTest):
    def put_in(self, size):
        """All corners that can be put in, by what they lead to."""
        found = {}
        for square in all_squares(size):
            for c in range(size):
                for way in range(4):
                    key = (put_looked(square, c, way), c, square[1][c])
                    self.assertNotIn(key, found)
                    found[key] = square
        return found

    def test_just_the_corners_put_in_are_taken_out(self):
        for size in (2, 3, 4):
            found = self.put_in(size)
            for square in all_squares(size + 1):
                for c in range(-1, size + 2):
                    for r in range(-1, size + 2):
                        if (square, c, r) in found:
                            self.told(corner_taken(square, c, r), found[square, c, r], square, c, r)
                        else:
                            self.refused(NoMove, corner_taken, square, c, r)

    def test_of_six(self):
        found = self.put_in(5)
        for square, c, r in list(found)[::97]:
            self.told(corner_taken(square, c, r), found[square, c, r], square, c, r)
        rows = [(1, 0, 2, 4, 3, 5), (0, 2, 5, 4, 1, 3), (3, 1, 4, 5, 0, 2), (2, 1, 3, 0, 5, 4), (5, 4, 3, 2, 1, 0)]
        for square in few_of_six() + squares_of(rows, rows):
            for c in range(-1, 7):
                for r in range(-1, 7):
                    if (square, c, r) not in found:
                        self.refused(NoMove, corner_taken, square, c, r)

    def test_nothing_to_be_taken_out_of_two(self):
        for square in all_squares(2):
            for c in range(-2, 4):
                for r in range(-2, 4):
                    self.refused(NoMove, corner_taken, square, c, r)

    def test_whatever_numbers(self):
        square = corner_put(THREEFOIL, 4, 3)
        self.assertEqual(corner_taken(square, 4, 1), THREEFOIL)
        for far in FAR + (-1, -2, 5, 6, 7):
            for near in (-1, 0, 1, 4, 5):
                self.refused(NoMove, corner_taken, square, far, near)
                self.refused(NoMove, corner_taken, square, near, far)
            self.refused(NoMove, corner_taken, square, far, far)

    def test_a_corner_with_rings_and_crosses_exchanged_is_none(self):
        # Two rings and one cross about an empty cell.
        for way in range(4):
            rings, crosses = corner_put(TIED, 1, way)
            self.assertEqual(corner_taken((rings, crosses), 1, 3), TIED)
            self.refused(NoMove, corner_taken, (crosses, rings), 1, 3)

    def test_a_corner_across_the_edge_is_none(self):
        square = corner_put(THREEFOIL, 2, 0)
        turned = columns_turned(square, 3)
        self.assertEqual(corner_taken(square, 2, 4), THREEFOIL)
        for c in (5, -1):
            self.refused(NoMove, corner_taken, turned, c, 4)


DEEDS = {
    "columns": columns_turned, "rows": rows_turned, "tip": tipped, "swap": columns_changed, "cross": rows_changed,
    "put": corner_put, "take": corner_taken,
}


class MovedTest(MovesTest):
    def test_of_instance(self):
        self.assertEqual(moved(PLAIN, ("columns", 1)), ((1, 0), (0, 1)))
        self.assertEqual(moved(((0, 1, 2), (1, 2, 0)), ("rows", -1)), ((2, 0, 1), (0, 1, 2)))
        self.assertEqual(moved(PLAIN, ("put", 0, 3)), ((1, 0, 2), (2, 1, 0)))
        self.assertEqual(moved(((1, 0, 2), (2, 1, 0)), ("take", 0, 1)), PLAIN)
        self.assertEqual(moved(((1, 2, 0), (0, 1, 2)), ("tip",)), ((2, 0, 1), (0, 1, 2)))

    def test_backs_of_instance(self):
        self.assertEqual(move_back(TIED, ("columns", 3)), ("columns", -3))
        self.assertEqual(move_back(TIED, ("rows", -12345678901)), ("rows", 12345678901))
        self.assertEqual(move_back(TIED, ("rows", 0)), ("rows", 0))
        self.assertEqual(move_back(TIED, ("tip",)), ("tip",))
        self.assertEqual(move_back(((0, 1, 2, 3), (3, 2, 1, 0)), ("swap", 0)), ("swap", 0))
        self.assertEqual(move_back(((0, 1, 3, 2), (1, 0, 2, 3)), ("cross", 1)), ("cross", 1))
        self.assertEqual(move_back(TIED, ("put", 1, 2)), ("take", 1, 3))
        self.assertEqual(move_back(TIED, ("put", 2, 0)), ("take", 2, 0))
        for way in range(4):
            self.assertEqual(move_back(corner_put(TIED, 1, way), ("take", 1, 3)), ("put", 1, way))

    def hold(self, square, move):
        deed, handed = DEEDS[move[0]], move[1:]
        try:
            due = deed(square, *handed)
        except RookError as refusal:
            self.refused(type(refusal), moved, square, move)
            return ""
        self.told(moved(square, move), due, square, move)
        back = move_back(square, move)
        self.assertIs(type(back), tuple)
        self.assertEqual(moved(due, back), square, (move, back))
        self.assertEqual(moved(square, move_back(due, back)), due, (move, back))
        return move[0]

    def test_each_is_what_its_function_tells_and_back(self):
        squares = some_squares() + [corner_put(square, 0, 3) for square in (PLAIN, TIED, THREEFOIL)]
        kinds = [self.hold(square, move) for square in squares for move in moves_within(len(square[0]))]
        self.assertEqual(set(kinds), set(DEEDS) | {""})

    def test_lines_and_ties_stay(self):
        for square in some_squares():
            kept = (len(lines_of(square)), sorted(tie for k, l, tie in ties_of(square)))
            for move in moves_within(len(square[0])):
                try:
                    found = moved(square, move)
                except RookError:
                    continue
                self.assertEqual((len(lines_of(found)), sorted(tie for k, l, tie in ties_of(found))), kept, move)

    def test_nothing_hangs_on_what_was_asked_before(self):
        moves = [("put", 2, 1), ("columns", 7), ("tip",), ("take", 1, 1), ("swap", 9), ("cross", 2)]
        def asked():
            found = []
            for square in (THREEFOIL, EIGHT, THREE_LINES, TIED):
                for move in moves:
                    try:
                        found.append(moved(square, move))
                    except RookError as refusal:
                        found.append(type(refusal))
            return found
        ahead = asked()
        moves.reverse()
        asked()
        moves.reverse()
        self.assertEqual(asked(), ahead)


if __name__ == "__main__":
    unittest.main()
