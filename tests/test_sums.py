"""Points 23 and 24: the sums of a square; points 2 and 3 as far as they bear on them."""

import copy
import unittest
from collections import Counter
from fractions import Fraction

from rookborders.crossings import crossings_of
from rookborders.errors import NotOne, RookError
from rookborders.moves import columns_turned, corner_put, moved
from rookborders.powers import at_one, determinant, minus, plus, times
from rookborders.squares import lines_of
from rookborders.stands import all_stands
from rookborders.sums import by_crossings, own_sum, signed_sum, windings
from rookborders.tables import rest
from second_look import (
    EIGHT, PLAIN, THREEFOIL, THREE_LINES, TIED, TOLD, few_of_six, home_looked, is_sum, moves_within, raised_alike,
)
from walker import Walked, all_squares, squares_up_to

KINDS = {"columns", "rows", "tip", "swap", "cross", "put", "take"}
TWO_APART = ((0, 1, 2, 3), (1, 0, 3, 2))
NINE = ((4, 5, 1, 0, 3, 2), (3, 2, 4, 5, 0, 1))
SHARE = [(-2, -1), (0, 1)]


def of_five():
    return all_squares(5)[::60] + [THREEFOIL]


def many_squares():
    return squares_up_to(4) + of_five() + few_of_six() + [NINE]


def with_one_line(squares):
    return [square for square in squares if len(lines_of(square)) == 1]


def winding_looked(square, bar, height):
    """How often the lines wind round a point of the board: columns to the left of it that a ray to there meets."""
    found = 0
    y = height - Fraction(1, 2)
    for column in range(len(square[0])):
        ring, cross = square[0][column], square[1][column]
        if column < bar and min(ring, cross) < y < max(ring, cross):
            found += 1 if cross > ring else -1
    return found


class SignedSumTest(unittest.TestCase):
    def test_of_instance(self):
        self.assertEqual(signed_sum(PLAIN), [(-2, -1), (0, 1)])
        self.assertEqual(signed_sum(TIED), [(-6, -1), (-4, 4), (-2, -6), (0, 4), (2, -1)])
        self.assertEqual(signed_sum(TWO_APART), [])
        due = [(-10, 1), (-8, -5), (-6, 11), (-4, -14), (-2, 11), (0, -5), (2, 1)]
        self.assertEqual(signed_sum(THREEFOIL), due)

    def test_by_all_stands(self):
        for square in squares_up_to(3) + all_squares(4)[::4] + of_five()[::9] + [EIGHT]:
            many = Counter()
            for stand in all_stands(len(square[0])):
                grade, lean = home_looked(square, stand)
                many[lean] += -1 if grade % 2 else 1
            self.assertTrue(is_sum(signed_sum(square)))
            self.assertEqual(signed_sum(square), sorted((lean, count) for lean, count in many.items() if count))

    def test_by_windings(self):
        for square in many_squares():
            table = [[[(-2 * number, 1)] for number in row] for row in windings(square)]
            self.assertTrue(raised_alike(determinant(table), signed_sum(square)), square)


class WindingsTest(unittest.TestCase):
    def test_of_instance(self):
        self.assertEqual(windings(PLAIN), [[0, 0], [0, 1]])
        self.assertEqual(windings(((1, 0), (0, 1))), [[0, 0], [0, -1]])
        self.assertEqual(windings(TIED), [[0, 0, 0, 0], [0, 1, 1, 0], [0, 1, 2, 1], [0, 0, 1, 1]])

    def test_as_looked(self):
        for square in many_squares():
            size = len(square[0])
            found = windings(square)
            self.assertEqual([type(row) for row in found], [list] * size)
            self.assertEqual({type(number) for row in found for number in row}, {int})
            due = [[winding_looked(square, bar, height) for height in range(size)] for bar in range(size)]
            self.assertEqual(found, due, square)


class OwnSumTest(unittest.TestCase):
    def test_of_instance(self):
        self.assertEqual(own_sum(PLAIN), [(0, 1)])
        self.assertEqual(own_sum(THREEFOIL), [(-2, 1), (0, -1), (2, 1)])
        self.assertEqual(own_sum(EIGHT), [(-2, -1), (0, 3), (2, -1)])
        self.assertEqual(own_sum(TIED), [(-2, -1), (0, 2), (2, -1)])
        self.assertEqual(own_sum(TWO_APART), [])

    def test_the_signed_sum_comes_of_it(self):
        for square in many_squares():
            found = own_sum(square)
            self.assertTrue(is_sum(found))
            for _ in range(len(square[0]) - len(lines_of(square))):
                found = times(found, SHARE)
            self.assertEqual(found, signed_sum(square), square)

    def test_it_is_that_of_the_rest(self):
        for square in squares_up_to(4) + of_five()[::4] + few_of_six():
            due = []
            for grade, lean, many in rest(square):
                due = plus(due, [(lean, many)]) if grade % 2 == 0 else minus(due, [(lean, many)])
            self.assertEqual(own_sum(square), due, square)

    def test_sums_stay_behind_moves(self):
        kinds = set()
        squares = squares_up_to(3) + all_squares(4)[::17] + [TIED, TOLD, THREEFOIL, corner_put(THREEFOIL, 2, 1)]
        for square in squares:
            due = own_sum(square)
            one = len(lines_of(square)) == 1
            line = by_crossings(square) if one else None
            for move in moves_within(len(square[0])):
                try:
                    other = moved(square, move)
                except RookError:
                    continue
                kinds.add(move[0])
                if len(other[0]) < 6 or move[1:] in ((1, 2), (1,), ()):
                    self.assertEqual(own_sum(other), due, (square, move))
                if one:
                    self.assertEqual(by_crossings(other), line, (square, move))
        self.assertEqual(kinds, KINDS)


class ByCrossingsTest(unittest.TestCase):
    def test_of_instance(self):
        self.assertEqual(by_crossings(PLAIN), [(0, 1)])
        self.assertEqual(by_crossings(THREEFOIL), [(-1, 1), (0, -1), (1, 1)])
        self.assertEqual(by_crossings((THREEFOIL[1], THREEFOIL[0])), [(-1, 1), (0, -1), (1, 1)])
        self.assertEqual(by_crossings(EIGHT), [(-1, -1), (0, 3), (1, -1)])
        self.assertEqual(by_crossings(NINE), [(0, 1)])

    def test_lines_with_few_and_many_crossings(self):
        seen = Counter()
        for square in with_one_line(many_squares()):
            found = by_crossings(square)
            seen[len(crossings_of(square))] += 1
            self.assertTrue(is_sum(found))
            self.assertEqual([(-power, many) for power, many in reversed(found)], found, square)
            self.assertEqual(at_one(found), 1, square)
            self.assertEqual([(2 * power, many) for power, many in found], own_sum(square), square)
            if len(crossings_of(square)) < 3:
                self.assertEqual(found, [(0, 1)])
        self.assertLessEqual({0, 1, 2, 3, 4, 9}, set(seen))

    def test_wherever_the_word_begins(self):
        for square in (THREEFOIL, EIGHT, NINE):
            for k in range(6):
                turned = columns_turned(square, k)
                self.assertEqual(by_crossings(turned), by_crossings(square))

    def test_more_lines_than_one(self):
        squares = [square for square in many_squares() if len(lines_of(square)) > 1] + [THREE_LINES]
        self.assertEqual({len(Walked(square).lines) for square in squares}, {2, 3})
        for square in squares:
            with self.assertRaises(RookError) as taken:
                by_crossings(square)
            self.assertIs(type(taken.exception), NotOne)


class OwnListsTest(unittest.TestCase):
    def test_told_lists_are_the_askers_own(self):
        for square in (PLAIN, THREEFOIL, corner_put(THREEFOIL, 0, 0), EIGHT):
            for deed in (signed_sum, own_sum, by_crossings):
                kept = list(deed(square))
                found = deed(square)
                self.assertIsNot(found, deed(square))
                found.append((99, 99))
                found.reverse()
                self.assertEqual(deed(square), kept)
            kept = copy.deepcopy(windings(square))
            found = windings(square)
            self.assertEqual(len({id(row) for row in found}), len(found))
            for row in found:
                row.append(7)
                row.reverse()
            found.clear()
            self.assertEqual(windings(square), kept)


if __name__ == "__main__":
    unittest.main()
