"""Points 2 and 3 over the whole program: what its parts tell of one another."""

import copy
import unittest

from rookborders.borders import border, partner, two_steps
from rookborders.crossings import crossings_of, ties_of, twists_of, words_of
from rookborders.desk import Desk
from rookborders.errors import NoMove, RookError, TooMany
from rookborders.exchanges import led, tied
from rookborders.handles import least_by_sum, least_by_table, of_surface, rounds_of
from rookborders.looker import look
from rookborders.moves import columns_changed, columns_turned, corner_put, move_back, moved, rows_turned, tipped
from rookborders.notes import square_read, square_shown, sum_shown, table_shown
from rookborders.oblongs import cells_of, steps_from
from rookborders.powers import determinant, times
from rookborders.squares import lines_of
from rookborders.stands import all_stands
from rookborders.sums import by_crossings, own_sum, signed_sum, windings
from rookborders.tables import rest, table, taken_apart
from second_look import (
    EIGHT, PLAIN, THREEFOIL, THREE_LINES, TIED, TOLD, exchange_looked, few_of_six, moves_within, raised_alike,
)
from walker import all_squares, squares_up_to

NAMES_OF_SQUARES = (PLAIN, TOLD, TIED, THREEFOIL, EIGHT, THREE_LINES)


def some_squares():
    return squares_up_to(3) + all_squares(4)[::6] + all_squares(5)[::480] + [TIED, TOLD, THREEFOIL]


def way_from(square, many):
    """Moves, none of them refused, one of each kind where it may be, and the square behind them."""
    moves, kinds = [], ["put", "cross", "swap", "rows", "tip", "take", "columns"]
    for k in range(many):
        for kind in kinds[k % 7:] + kinds[:k % 7]:
            found = [move for move in moves_within(len(square[0])) if move[0] == kind and done(square, move)]
            if found:
                moves.append(found[(5 * k) % len(found)])
                square = moved(square, moves[-1])
                break
    return moves, square


def done(square, move):
    try:
        return moved(square, move)
    except (NoMove, TooMany):
        return None


class PromiseTest(unittest.TestCase):
    def test_border_twice_is_nothing_as_told_pairs_show(self):
        for square in some_squares()[::3]:
            for stand in all_stands(len(square[0]))[::4]:
                ways = two_steps(square, stand)
                self.assertEqual(sorted(partner(square, stand, way) for way in ways), ways)
                self.assertEqual(border(square, border(square, [stand])), [])

    def test_what_is_told_is_let_by(self):
        for square in some_squares():
            classes, borders = taken_apart(square)
            self.assertIs(look(("apart", square, classes, borders)), True)
            for cycle, row in classes[::7]:
                self.assertIs(look(("class", square, cycle, row)), True)
            stands = all_stands(len(square[0]))
            for c in range(len(square[0]) - 1):
                if exchange_looked(square, c):
                    there = [led(square, c, [stand]) for stand in stands]
                    tie = [tied(square, c, [stand]) for stand in stands]
                    self.assertIs(look(("exchange", square, c, there, tie)), True)

    def test_moves_keep_rest_and_sum_and_their_paper_is_let_by(self):
        kinds = set()
        for square in [PLAIN, TIED, TOLD, THREEFOIL, EIGHT] + all_squares(4)[5::40]:
            moves, other = way_from(square, 14)
            kinds |= {move[0] for move in moves}
            self.assertIs(look(("moves", square, moves, other)), True)
            self.assertEqual(rest(other), rest(square))
            self.assertEqual(own_sum(other), own_sum(square))
            self.assertEqual(len(lines_of(other)), len(lines_of(square)))
            back, behind = [], square
            for move in moves:
                back.insert(0, move_back(behind, move))
                behind = moved(behind, move)
            self.assertIs(look(("moves", other, back, square)), True)
        self.assertEqual(kinds, {"columns", "rows", "tip", "swap", "cross", "put", "take"})

    def test_sums_by_table_windings_and_crossings(self):
        for square in some_squares() + few_of_six():
            counted = {}
            for grade, lean, many in table(square):
                counted[lean] = counted.get(lean, 0) + (-many if grade % 2 else many)
            due = sorted((lean, many) for lean, many in counted.items() if many)
            self.assertEqual(signed_sum(square), due)
            powers = [[[(-2 * number, 1)] for number in row] for row in windings(square)]
            self.assertTrue(raised_alike(determinant(powers), due))
            if len(lines_of(square)) == 1:
                self.assertEqual([(2 * power, many) for power, many in by_crossings(square)], own_sum(square))

    def test_handles_never_fall(self):
        for square in some_squares() + few_of_six():
            if len(lines_of(square)) == 1:
                numbers = [least_by_sum(square), least_by_table(square), of_surface(square)]
                self.assertEqual(numbers, sorted(numbers), square)


class ByTextsTest(unittest.TestCase):
    """From texts to sums by the desk's own answers."""

    def test_from_a_text_to_its_sum(self):
        desk = Desk()
        self.assertEqual(desk.say("square ..x.o/.x.o./x.o../.o..x/o..x."), "..x.o/.x.o./x.o../.o..x/o..x.")
        self.assertEqual(desk.say("sum"), "1@-2 -1@0 1@2")
        self.assertEqual(desk.say("rest"), "0,-2,1 1,0,1 2,2,1")
        self.assertEqual(desk.say("handles"), "1 1 1")
        self.assertEqual(desk.say("lines"), "0,3,1,4,2")
        put_in = desk.say("put 2 1")
        self.assertEqual(square_read(put_in), corner_put(THREEFOIL, 2, 1))
        self.assertEqual(desk.say("sum"), "1@-2 -1@0 1@2")
        self.assertEqual(desk.say("rest"), "0,-2,1 1,0,1 2,2,1")
        self.assertEqual(desk.say("handles")[:4], "1 1 ")

    def test_what_the_desk_answers_is_read_again(self):
        for square in (PLAIN, TIED, THREEFOIL, TOLD):
            desk = Desk()
            desk.say("square " + square_shown(square))
            kept = (desk.say("rest"), desk.say("sum"))
            moves, other = way_from(square, 14)
            for move in moves:
                if all(abs(number) < 10 ** 6 for number in move[1:]):
                    answer = desk.say(" ".join(map(str, move)))
                else:
                    answer = desk.say("square " + square_shown(moved(square_read(desk.say("show")), move)))
                self.assertEqual((desk.say("rest"), desk.say("sum")), kept)
                again = Desk()
                self.assertEqual(again.say("square " + answer), answer)
                self.assertEqual(again.say("table"), desk.say("table"))
            self.assertEqual(square_read(desk.say("show")), other)
            while True:
                try:
                    last = desk.say("undo")
                except RookError:
                    break
            self.assertEqual(last, "xo/ox")

    def test_numbers_of_the_answers(self):
        for square in few_of_six() + [TIED, THREEFOIL]:
            desk = Desk()
            desk.say("square " + square_shown(square))
            read = [tuple(map(int, word.split(","))) for word in desk.say("table").split(" ")]
            self.assertEqual(read, table(square))
            self.assertEqual(table_shown(read), desk.say("table"))
            words = [] if desk.say("sum") == "0" else desk.say("sum").split(" ")
            pairs = [tuple(map(int, word.split("@"))) for word in words]
            self.assertEqual([(power, many) for many, power in pairs], own_sum(square))
            self.assertEqual(sum_shown(own_sum(square)), desk.say("sum"))


class OwnTest(unittest.TestCase):
    """Every list that is told is the asker's own, and nothing hangs on what was asked before."""

    def deeds(self, square):
        stand = all_stands(len(square[0]))[-1]
        yield from ((deed, (square,)) for deed in (
            lines_of, crossings_of, twists_of, ties_of, words_of, taken_apart, table, rest, signed_sum, own_sum, windings,
        ))
        if len(lines_of(square)) == 1:
            yield from ((deed, (square,)) for deed in (by_crossings, rounds_of))
        yield all_stands, (len(square[0]),)
        yield cells_of, (stand, 0, 1)
        yield steps_from, (square, stand)
        yield border, (square, [stand])
        yield two_steps, (square, stand)
        yield times, ([(0, 1)], [(0, 1)])

    def spoil(self, told):
        for part in told:
            if isinstance(part, (list, tuple)):
                self.spoil(part)
        if isinstance(told, list):
            told.append("spoiled")
            told.reverse()

    def test_told_lists_spoiled_spoil_nothing(self):
        for square in NAMES_OF_SQUARES[:5]:
            for deed, handed in self.deeds(square):
                kept = copy.deepcopy(deed(*handed))
                self.spoil(deed(*handed))
                self.assertEqual(deed(*handed), kept, deed.__name__)

    def test_in_whatever_order_it_is_asked(self):
        asked = [(deed, handed) for square in (THREEFOIL, TIED, PLAIN) for deed, handed in self.deeds(square)]
        first = [deed(*handed) for deed, handed in asked]
        again = [deed(*handed) for deed, handed in reversed(asked)]
        for (deed, _), one, other in zip(asked, first, reversed(again)):
            if deed is not taken_apart:
                self.assertEqual(one, other, deed.__name__)

    def test_squares_of_six(self):
        for square in few_of_six():
            for other in (tipped(square), columns_turned(square, 2), rows_turned(square, -1)):
                self.assertEqual(rest(other), rest(square))
                self.assertEqual(square_read(square_shown(other)), other)
            for c in range(5):
                if exchange_looked(square, c):
                    self.assertEqual(rest(columns_changed(square, c)), rest(square))


if __name__ == "__main__":
    unittest.main()
