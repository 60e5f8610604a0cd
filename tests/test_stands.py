"""Points 11 to 13: stands, grades and leans, stands turned and tipped; point 2 as far as it bears on them."""

import copy
import unittest
from itertools import permutations
from math import factorial

from rookborders.moves import columns_turned, rows_turned, tipped
from rookborders.squares import lines_of
from rookborders.stands import all_stands, grade, is_stand, lean, stand_raised, stand_tipped, stand_turned
from second_look import (
    EIGHT, PLAIN, THREEFOIL, THREE_LINES, TIED, TOLD, few_of_six, gone_round, grade_looked, lean_looked, some_squares,
)
from walker import all_squares, squares_up_to

LONG = (12345678901, -12345678901, 99999999999, -99999999999)


def some_stands(size):
    """All stands of up to four bars, some of five and six."""
    return list(permutations(range(size)))[::{5: 7, 6: 41}.get(size, 1)]


def no_stands():
    """Things that are no stands of 4."""
    strange = (-1, -4, 4, 5, 999999999999, -999999999999, True, False, None, "", "0", "2", [], [2], (), (2,), ((),))
    things = [(0, 1, 2, 3)[:place] + (thing,) + (0, 1, 2, 3)[place + 1:] for thing in strange for place in range(4)]
    things += [(0, 0, 1, 2), (0, 1, 2, 2), (3, 3, 3, 3), (0, 0, 0, 0), (1, 2, 3, 3), (1, 2, 3, 4), (-1, 0, 1, 2)]
    things += [(0, 1, 2), (0, 1, 2, 3, 4), (0, 1, 2, 3, 3), (0, 1, 2, 3, 0), (3, 2, 1), (0,), (0, 1), tuple(range(400))]
    things += [(False, True, 2, 3), (0, True, 2, 3), (False, 1, 2, 3), (True, False, 3, 2), (3, 2, True, 0)]
    things += [[0, 1, 2, 3], [3, 2, 1, 0], ([0, 1, 2, 3],), ((0, 1, 2, 3),), [(0, 1, 2, 3)]]
    things += [((0, 1, 2, 3), (0, 1, 2, 3)), ((0, 1), (2, 3)), ([0, 1, 2, 3], 1, 2, 3)]
    things += [(), [], None, True, False, 0, 1, 4, -4, 1234, "", "0123", "x" * 400, ("0", "1", "2", "3"), ("0123",)]
    things += [(None, None, None, None), ("", "", "", ""), ((), (), (), ())]
    things += [([0], [1], [2], [3]), ((0,), (1,), (2,), (3,))]
    return things + [((((((),),),),),), [[[[[[]]]]]], (0, 1, 2, "3"), (0, 1, 2, None), (0, "1", None, [2])]


class AllStandsTest(unittest.TestCase):
    def test_of_two_and_three(self):
        self.assertEqual(all_stands(2), [(0, 1), (1, 0)])
        self.assertEqual(all_stands(3), [(0, 1, 2), (0, 2, 1), (1, 0, 2), (1, 2, 0), (2, 0, 1), (2, 1, 0)])

    def test_of_each_size_in_order_as_many_as_there_are(self):
        for n in range(2, 7):
            found = all_stands(n)
            self.assertIs(type(found), list)
            self.assertEqual(len(found), factorial(n))
            self.assertEqual(found, sorted(set(permutations(range(n)))))
            self.assertEqual({type(stand) for stand in found}, {tuple})
            self.assertEqual({type(height) for stand in found for height in stand}, {int})
            self.assertEqual([is_stand(n, stand) for stand in found], [True] * len(found))

    def test_the_told_list_is_the_askers_own(self):
        for n in range(2, 7):
            kept = list(permutations(range(n)))
            found = all_stands(n)
            self.assertIsNot(found, all_stands(n))
            found.reverse()
            found.pop()
            found[0] = None
            self.assertEqual(all_stands(n), kept)
            self.assertIs(is_stand(n, kept[-1]), True)


class IsStandTest(unittest.TestCase):
    def test_all_tuples_of_small_numbers(self):
        for n, numbers in ((2, range(-2, 5)), (3, range(-1, 5))):
            rows = [()]
            for _ in range(n + 1):
                judged = [row for row in rows if is_stand(n, row)]
                self.assertEqual(judged, list(permutations(range(n))) if len(rows[0]) == n else [])
                rows = [row + (number,) for row in rows for number in numbers]

    def test_a_stand_of_another_size_is_none(self):
        for n in range(2, 7):
            for other in range(0, 8):
                stand = tuple(range(other))[::-1]
                self.assertIs(is_stand(n, stand), n == other)

    def test_things_that_are_none(self):
        for thing in no_stands():
            self.assertIs(is_stand(4, thing), False, thing)
        for n in range(2, 7):
            for thing in no_stands():
                if not isinstance(thing, tuple) or len(thing) != n:
                    self.assertIs(is_stand(n, thing), False, (n, thing))

    def test_truths_in_a_numbers_place(self):
        for thing in ((False, True), (True, False), (0, True), (False, 1), (True, 0), (1, False)):
            self.assertIs(is_stand(2, thing), False, thing)
        self.assertIs(is_stand(6, (5, 4, 3, 2, True, 0)), False)
        self.assertIs(is_stand(6, (5, 4, 3, 2, 1, False)), False)

    def test_squares_are_no_stands(self):
        for square in some_squares():
            for n in range(2, 7):
                self.assertIs(is_stand(n, square), False)
                self.assertIs(is_stand(n, square[0]), n == len(square[0]))

    def test_what_is_handed_in_stays(self):
        for thing in no_stands():
            before = repr(copy.deepcopy(thing))
            is_stand(4, thing)
            self.assertEqual(repr(thing), before)
        heights = [3, 2, 1, 0]
        for thing in (heights, (heights, 1, 2, 3), (heights,)):
            self.assertIs(is_stand(4, thing), False)
            self.assertEqual(heights, [3, 2, 1, 0])

    def test_nothing_hangs_on_what_was_asked_before(self):
        for _ in range(2):
            self.assertIs(is_stand(2, (0, 1)), True)
            self.assertIs(is_stand(2, (False, True)), False)
            self.assertIs(is_stand(2, [0, 1]), False)
            self.assertIs(is_stand(3, (0, 1)), False)


class GradeTest(unittest.TestCase):
    def test_of_instance(self):
        # Reckoned by hand, pair by pair.
        self.assertEqual([grade(PLAIN, stand) for stand in ((0, 1), (1, 0))], [-1, 0])
        self.assertEqual([lean(PLAIN, stand) for stand in ((0, 1), (1, 0))], [-2, 0])
        turned = ((1, 0), (0, 1))
        self.assertEqual([grade(turned, stand) for stand in ((0, 1), (1, 0))], [0, -1])
        self.assertEqual([lean(turned, stand) for stand in ((0, 1), (1, 0))], [0, -2])

    def test_on_its_rings_corners_a_stand_has_grade_one_less_its_size(self):
        # With each rook at its column's ring's lower left corner.
        for square in some_squares():
            self.assertEqual(grade(square, square[0]), 1 - len(square[0]), square)

    def test_as_looked(self):
        for square in squares_up_to(3) + all_squares(4)[::7] + some_squares():
            for stand in some_stands(len(square[0])):
                self.assertEqual(grade(square, stand), grade_looked(square[0], stand), (square, stand))
                self.assertEqual(lean(square, stand), lean_looked(square, stand), (square, stand))

    def test_every_stand_of_some_of_five(self):
        for square in (THREEFOIL, ((0, 1, 2, 4, 3), (2, 3, 0, 1, 4))):
            for stand in all_stands(5):
                self.assertEqual(grade(square, stand), grade_looked(square[0], stand), stand)
                self.assertEqual(lean(square, stand), lean_looked(square, stand), stand)

    def test_the_number_of_lines_counts(self):
        self.assertEqual([len(lines_of(square)) for square in (THREEFOIL, TIED, THREE_LINES)], [1, 2, 3])
        for square in (TIED, THREE_LINES):
            stand = tuple(range(len(square[0])))
            other = grade((square[1], square[0]), stand)
            due = grade(square, stand) - other - len(square[0]) + len(lines_of(square))
            self.assertEqual(lean(square, stand), due)

    def test_with_one_line_the_lean_is_even(self):
        seen = 0
        for square in squares_up_to(4) + [THREEFOIL, EIGHT]:
            if len(lines_of(square)) == 1:
                seen += 1
                odd = [stand for stand in some_stands(len(square[0])) if lean(square, stand) % 2]
                self.assertEqual(odd, [], square)
        self.assertGreater(seen, 100)

    def test_kinds(self):
        for square in (PLAIN, TIED, THREEFOIL, EIGHT):
            for stand in some_stands(len(square[0]))[::5]:
                self.assertIs(type(grade(square, stand)), int)
                self.assertIs(type(lean(square, stand)), int)


class TurnedTest(unittest.TestCase):
    def test_of_instance(self):
        self.assertEqual(stand_turned((2, 0, 3, 1), 1), (1, 2, 0, 3))
        self.assertEqual(stand_turned((2, 0, 3, 1), -1), (0, 3, 1, 2))
        self.assertEqual(stand_raised((2, 0, 3, 1), 1), (3, 1, 0, 2))
        self.assertEqual(stand_raised((2, 0, 3, 1), -1), (1, 3, 2, 0))
        self.assertEqual(stand_tipped((2, 0, 3, 1)), (1, 3, 0, 2))
        self.assertEqual(stand_tipped((1, 2, 0)), (2, 0, 1))
        # 12345678901 is one more than a number that goes into fours.
        self.assertEqual(stand_turned((2, 0, 3, 1), 12345678901), (1, 2, 0, 3))
        self.assertEqual(stand_raised((2, 0, 3, 1), -12345678901), (1, 3, 2, 0))

    def test_rook_by_rook(self):
        for size in range(2, 7):
            for stand in some_stands(size):
                rooks = set(enumerate(stand))
                for k in range(-size - 2, size + 3):
                    turned = {(gone_round(bar, k, size), height) for bar, height in rooks}
                    raised = {(bar, gone_round(height, k, size)) for bar, height in rooks}
                    self.assertEqual(set(enumerate(stand_turned(stand, k))), turned)
                    self.assertEqual(set(enumerate(stand_raised(stand, k))), raised)
                self.assertEqual(set(enumerate(stand_tipped(stand))), {(height, bar) for bar, height in rooks})

    def test_large_numbers(self):
        for size in range(2, 7):
            for stand in some_stands(size)[::3]:
                for k in LONG:
                    over = k - size * (k // size)
                    self.assertEqual(stand_turned(stand, k), stand_turned(stand, over))
                    self.assertEqual(stand_raised(stand, k), stand_raised(stand, over))
                for k in (0, size, -size, size * 10 ** 10, -size * 10 ** 10):
                    self.assertEqual(stand_turned(stand, k), stand)
                    self.assertEqual(stand_raised(stand, k), stand)

    def test_turned_back_it_is_the_stand(self):
        for size in range(2, 7):
            for stand in some_stands(size):
                for k in (1, -1, 2, -3, 7) + LONG:
                    self.assertEqual(stand_turned(stand_turned(stand, k), -k), stand)
                    self.assertEqual(stand_raised(stand_raised(stand, k), -k), stand)
                self.assertEqual(stand_tipped(stand_tipped(stand)), stand)

    def test_told_are_stands(self):
        for size in range(2, 7):
            for stand in some_stands(size)[::3]:
                for found in (stand_turned(stand, 2), stand_raised(stand, LONG[1]), stand_tipped(stand)):
                    self.assertIs(is_stand(size, found), True)

    def test_grade_and_lean_stay(self):
        for square in all_squares(2) + all_squares(3)[::2] + [TIED, TOLD, THREEFOIL] + few_of_six()[::2]:
            for stand in some_stands(len(square[0]))[::2]:
                due = (grade(square, stand), lean(square, stand))
                for k in (1, -1, 3, LONG[0], LONG[3]):
                    turned, raised = columns_turned(square, k), rows_turned(square, k)
                    one, other = stand_turned(stand, k), stand_raised(stand, k)
                    self.assertEqual((grade(turned, one), lean(turned, one)), due, (square, stand, k))
                    self.assertEqual((grade(raised, other), lean(raised, other)), due, (square, stand, k))
                over = stand_tipped(stand)
                self.assertEqual((grade(tipped(square), over), lean(tipped(square), over)), due, (square, stand))


if __name__ == "__main__":
    unittest.main()
