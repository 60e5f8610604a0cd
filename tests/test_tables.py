"""Points 17 and 18: squares taken apart, tables and their rests; points 2 and 3 as far as they bear on them."""

import copy
import unittest
from collections import Counter
from math import factorial

from rookborders.borders import border
from rookborders.errors import RookError
from rookborders.moves import columns_turned, corner_put, corner_taken, moved, rows_turned, tipped
from rookborders.squares import lines_of
from rookborders.stands import all_stands, grade, is_stand, lean
from rookborders.tables import rest, table, taken_apart
from second_look import (
    EIGHT, PLAIN, THREEFOIL, THREE_LINES, TIED, TOLD, border_looked, few_of_six, home_looked, moves_within, odd_ones,
)
from walker import all_squares, squares_up_to

KINDS = {"columns", "rows", "tip", "swap", "cross", "put", "take"}
TWO_APART = ((0, 1, 2, 3), (1, 0, 3, 2))
THREE_APART = ((0, 1, 2, 3, 4, 5), (1, 0, 3, 2, 5, 4))
MIRRORED = ((4, 3, 2, 1, 0), (1, 0, 4, 3, 2))


def some_of_five():
    return all_squares(5)[::240] + [THREEFOIL]


def common(one, other):
    return len(set(one) & set(other))


def put_again(found, times):
    """The table that comes of a rest: so many times all as much again, one grade and two leans less."""
    many = Counter({(grade, lean): count for grade, lean, count in found})
    for _ in range(times):
        many += Counter({(grade - 1, lean - 2): count for (grade, lean), count in many.items()})
    return sorted((grade, lean, count) for (grade, lean), count in many.items())


class TakenApartTest(unittest.TestCase):
    def hold_crowd(self, size, crowd):
        self.assertIs(type(crowd), list)
        self.assertTrue(all(is_stand(size, stand) for stand in crowd), crowd)
        self.assertEqual(crowd, sorted(set(crowd)))

    def hold_classes(self, size, classes, homes, borders):
        for at, pair in enumerate(classes):
            self.assertIs(type(pair), tuple)
            cycle, row = pair
            self.hold_crowd(size, cycle)
            self.hold_crowd(size, row)
            self.assertEqual(len({homes[stand] for stand in cycle + row}), 1)
            self.assertEqual(odd_ones([end for stand in cycle for end in borders[stand]]), [])
            self.assertEqual([stand for stand in borders if common(row, borders[stand]) % 2], [])
            met = [other for other, (round_one, _) in enumerate(classes) if common(row, round_one) % 2]
            self.assertEqual(met, [at])

    def hold_borders(self, size, told, homes, borders):
        for pair in told:
            self.assertIs(type(pair), tuple)
            crowd, lead = pair
            self.hold_crowd(size, crowd)
            self.assertEqual(len({homes[stand] for stand in crowd}), 1)
            edge = odd_ones([end for stand in crowd for end in borders[stand]])
            self.assertNotEqual(edge, [])
            self.assertEqual(lead, max(edge))
            self.assertIs(type(lead), tuple)
        leads = [lead for crowd, lead in told]
        self.assertEqual(len(leads), len(set(leads)))

    def hold(self, square, homes, borders):
        """Every clause of the square taken apart, and the table counted by it."""
        size = len(square[0])
        told = taken_apart(square)
        self.assertIs(type(told), tuple)
        self.assertEqual([type(part) for part in told], [list, list])
        classes, leads = told
        self.hold_classes(size, classes, homes, borders)
        self.hold_borders(size, leads, homes, borders)
        self.assertEqual(len(classes) + 2 * len(leads), factorial(size))
        many = Counter(homes[cycle[0]] for cycle, row in classes)
        self.assertEqual(table(square), sorted((*home, count) for home, count in many.items()), square)

    def hold_looked(self, square):
        stands = all_stands(len(square[0]))
        homes = {stand: home_looked(square, stand) for stand in stands}
        self.hold(square, homes, {stand: border_looked(square, [stand]) for stand in stands})

    def test_every_square_of_two_to_four(self):
        for square in squares_up_to(4):
            self.hold_looked(square)

    def test_some_squares_of_five(self):
        for square in some_of_five():
            self.hold_looked(square)

    def test_some_squares_of_six(self):
        for square in few_of_six()[:2] + [EIGHT, THREE_LINES]:
            homes = {stand: (grade(square, stand), lean(square, stand)) for stand in all_stands(6)}
            self.hold(square, homes, {stand: border(square, [stand]) for stand in all_stands(6)})

    def test_of_instance(self):
        classes, borders = taken_apart(PLAIN)
        self.assertEqual(sorted(classes), [([(0, 1)], [(0, 1)]), ([(1, 0)], [(1, 0)])])
        self.assertEqual(borders, [])

    def test_told_lists_are_the_askers_own(self):
        for square in (PLAIN, TIED, THREEFOIL):
            kept = copy.deepcopy(taken_apart(square))
            classes, borders = taken_apart(square)
            lists = [classes, borders] + [crowd for pair in classes for crowd in pair] + [pair[0] for pair in borders]
            self.assertEqual(len({id(one) for one in lists}), len(lists))
            for one in lists:
                one.append((9, 9))
                one.reverse()
            self.assertEqual(taken_apart(square), kept)


class TableTest(unittest.TestCase):
    def test_of_instance(self):
        self.assertEqual(table(PLAIN), [(-1, -2, 1), (0, 0, 1)])
        self.assertEqual(
            table(TWO_APART), [(-3, -4, 1), (-2, -4, 1), (-2, -2, 2), (-1, -2, 2), (-1, 0, 1), (0, 0, 1)]
        )
        self.assertEqual(table(TIED), [(-3, -6, 1), (-2, -4, 4), (-1, -2, 6), (0, 0, 4), (1, 2, 1)])

    def test_its_form(self):
        for square in squares_up_to(4) + some_of_five() + few_of_six():
            found = table(square)
            self.assertIs(type(found), list)
            self.assertEqual({type(place) for place in found}, {tuple})
            self.assertEqual({type(number) for place in found for number in place}, {int})
            self.assertEqual(found, sorted(found))
            self.assertEqual(len({place[:2] for place in found}), len(found))
            self.assertTrue(all(many >= 1 for grade, lean, many in found))

    def test_the_same_turned_and_tipped(self):
        for square in squares_up_to(3) + all_squares(4)[::5] + some_of_five()[::4] + [TIED, THREEFOIL, EIGHT]:
            due = table(square)
            self.assertEqual(table(tipped(square)), due)
            for k in (1, -1, 2, 3):
                self.assertEqual(table(columns_turned(square, k)), due)
                self.assertEqual(table(rows_turned(square, k)), due)

    def test_told_lists_are_the_askers_own(self):
        for square in (PLAIN, TIED, THREEFOIL):
            for deed in (table, rest):
                kept = list(deed(square))
                found = deed(square)
                self.assertIsNot(found, deed(square))
                found.append((9, 9, 9))
                found.reverse()
                self.assertEqual(deed(square), kept)


class RestTest(unittest.TestCase):
    def test_of_instance(self):
        self.assertEqual(rest(PLAIN), [(0, 0, 1)])
        self.assertEqual(rest(THREEFOIL), [(0, -2, 1), (1, 0, 1), (2, 2, 1)])
        self.assertEqual(rest(EIGHT), [(-1, -2, 1), (0, 0, 3), (1, 2, 1)])
        self.assertEqual(rest(TIED), [(-1, -2, 1), (0, 0, 2), (1, 2, 1)])
        self.assertEqual(rest(MIRRORED), [(-2, -2, 1), (-1, 0, 1), (0, 2, 1)])
        self.assertEqual(rest(TWO_APART), [(-1, 0, 1), (0, 0, 1)])
        self.assertEqual(rest(THREE_APART), [(-2, 0, 1), (-1, 0, 2), (0, 0, 1)])
        self.assertEqual(
            rest(THREE_LINES),
            [(-2, -6, 1), (-1, -4, 3), (0, -2, 3), (0, 0, 1), (1, 0, 3), (2, 2, 3), (3, 4, 3), (4, 6, 1)],
        )

    def test_the_table_comes_of_it(self):
        for square in squares_up_to(4) + some_of_five() + few_of_six() + [THREE_APART]:
            found = rest(square)
            times = len(square[0]) - len(lines_of(square))
            self.assertEqual(put_again(found, times), table(square), square)

    def test_its_form(self):
        for square in squares_up_to(4) + some_of_five() + few_of_six():
            found = rest(square)
            self.assertIs(type(found), list)
            self.assertNotEqual(found, [])
            self.assertEqual({type(place) for place in found}, {tuple})
            self.assertEqual({type(number) for place in found for number in place}, {int})
            self.assertEqual(found, sorted(found))
            self.assertEqual(len({place[:2] for place in found}), len(found))
            self.assertTrue(all(many >= 1 for grade, lean, many in found))

    def test_of_one_line_turned_about(self):
        seen = 0
        for square in squares_up_to(4) + some_of_five() + few_of_six():
            if len(lines_of(square)) == 1:
                found = rest(square)
                about = sorted((grade - lean, -lean, many) for grade, lean, many in found)
                self.assertEqual(about, found, square)
                self.assertEqual([lean for grade, lean, many in found if lean % 2], [])
                seen += len(found) > 1
        self.assertGreater(seen, 1)

    def stays(self, square, moves):
        """The rest behind each of the moves that isn't refused is what it was; their kinds."""
        due, kinds = rest(square), set()
        for move in moves:
            try:
                other = moved(square, move)
            except RookError:
                continue
            self.assertEqual(rest(other), due, (square, move))
            kinds.add(move[0])
        return kinds

    def test_it_stays_behind_moves(self):
        squares = all_squares(2) + all_squares(3) + all_squares(4)[::11] + [TIED, TOLD, TWO_APART]
        kinds = [self.stays(square, moves_within(len(square[0]))) for square in squares]
        self.assertEqual(set().union(*kinds), KINDS)

    def test_it_stays_behind_moves_of_five_and_six(self):
        put_in = [corner_put(TIED, 1, 2), corner_put(corner_put(TIED, 0, 1), 2, 3)]
        kinds = set()
        for square in [THREEFOIL, corner_put(THREEFOIL, 2, 1)] + put_in:
            moves = moves_within(len(square[0]))
            kinds |= self.stays(square, [move for move in moves if move[0] in ("swap", "cross", "take")])
            kinds |= self.stays(square, [("columns", 1), ("rows", 2), ("tip",), ("put", 1, 0), ("put", 3, 3)])
        self.assertEqual(kinds, KINDS)

    def test_all_that_moves_make_of_the_square_of_two_columns(self):
        reached = [PLAIN]
        for square in reached:
            for move in [("swap", 0), ("swap", 1), ("cross", 1), ("columns", 1), ("tip",), ("take", 0, 0)]:
                try:
                    reached += [other for other in [moved(square, move)] if other not in reached]
                except RookError:
                    pass
            if len(square[0]) < 4:
                ways = [corner_put(square, c, way) for c in range(len(square[0])) for way in range(4)]
                reached += sorted({way for way in ways if way not in reached})
        self.assertGreater(len(reached), 50)
        for square in reached + [corner_put(corner_put(square, 1, 2), 3, 0) for square in reached[-8:]]:
            self.assertEqual(rest(square), [(0, 0, 1)], square)

    def test_put_in_and_taken_out(self):
        square = corner_put(THREEFOIL, 3, 2)
        self.assertEqual(rest(square), [(0, -2, 1), (1, 0, 1), (2, 2, 1)])
        self.assertEqual(corner_taken(square, 3, THREEFOIL[1][3]), THREEFOIL)

    def test_nothing_hangs_on_what_was_asked_before(self):
        squares = (PLAIN, TIED, THREEFOIL, MIRRORED)
        first = [(table(square), rest(square), taken_apart(square)) for square in squares]
        again = [(table(square), rest(square), taken_apart(square)) for square in reversed(squares)]
        for square, one, other in zip(squares, first, reversed(again)):
            self.assertEqual(one[:2], other[:2], square)
            self.assertEqual([len(part) for part in one[2]], [len(part) for part in other[2]])


if __name__ == "__main__":
    unittest.main()
