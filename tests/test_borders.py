"""Points 15 and 16: crowds added, borders, ways by two steps and their partners; point 2 as far as it bears on them."""

import copy
import unittest

from rookborders.borders import added, border, partner, two_steps
from rookborders.oblongs import steps_from
from rookborders.stands import all_stands, is_stand
from second_look import (
    EIGHT, PLAIN, THREEFOIL, THREE_LINES, TIED, TOLD, border_looked, few_of_six, some_squares, ways_looked,
)
from walker import all_squares, squares_up_to

ROUND = ((0, 1, 2), (1, 2, 0))


def some_crowds(size):
    """Crowds of many sizes: none, one, every k-th stand, all."""
    stands = all_stands(size)
    crowds = [[], stands, stands[:1], stands[-1:], stands[::2], stands[1::2], stands[::3], stands[:len(stands) // 2]]
    if size > 2:
        crowds += [stands[1:4], stands[2::5], stands[3:-1:4], stands[4:5]]
    return crowds


class AddedTest(unittest.TestCase):
    def test_of_instance(self):
        self.assertEqual(added([], []), [])
        self.assertEqual(added([(0, 1)], []), [(0, 1)])
        self.assertEqual(added([], [(1, 0)]), [(1, 0)])
        self.assertEqual(added([(0, 1)], [(0, 1)]), [])
        self.assertEqual(added([(1, 0)], [(0, 1)]), [(0, 1), (1, 0)])
        self.assertEqual(added([(0, 1), (1, 0)], [(0, 1)]), [(1, 0)])
        self.assertEqual(
            added([(0, 1, 2), (1, 0, 2), (2, 1, 0)], [(0, 2, 1), (1, 0, 2)]), [(0, 1, 2), (0, 2, 1), (2, 1, 0)]
        )

    def test_stands_in_just_one_of_both(self):
        for size in range(2, 7):
            for one in some_crowds(size):
                for other in some_crowds(size):
                    found = added(one, other)
                    self.assertIs(type(found), list)
                    in_both = set(one) & set(other)
                    in_any = set(one) | set(other)
                    due = [stand for stand in all_stands(size) if stand in in_any and stand not in in_both]
                    self.assertEqual(found, due)

    def test_handed_crowds_stay_and_told_ones_are_new(self):
        one, other = all_stands(3)[:3], all_stands(3)[2:]
        for first, second in ((one, other), (one, []), ([], other), (one, one), ([], [])):
            kept = copy.deepcopy((first, second))
            found = added(first, second)
            self.assertIsNot(found, first)
            self.assertIsNot(found, second)
            self.assertIsNot(found, added(first, second))
            due = list(found)
            found.append((9,))
            found.reverse()
            self.assertEqual((first, second), kept)
            self.assertEqual(added(first, second), due)

    def test_what_is_changed_behind_a_call_changes_nothing_told(self):
        one, other = all_stands(3)[:3], all_stands(3)[2:]
        found = added(one, other)
        due = list(found)
        one.clear()
        other.reverse()
        self.assertEqual(found, due)


class BorderTest(unittest.TestCase):
    def test_of_instance(self):
        self.assertEqual(border(TOLD, [(0, 3, 1, 2)]), [(0, 3, 2, 1)])
        self.assertEqual(border(PLAIN, [(0, 1), (1, 0)]), [])
        self.assertEqual(border(ROUND, [(2, 0, 1)]), [(0, 2, 1), (1, 0, 2), (2, 1, 0)])

    def test_of_none(self):
        for square in some_squares():
            self.assertEqual(border(square, []), [])
            self.assertIs(type(border(square, [])), list)

    def test_of_one(self):
        seen_twice = 0
        for square in squares_up_to(3) + all_squares(4)[::7] + [THREEFOIL]:
            for stand in all_stands(len(square[0])):
                ends = [end for a, b, end in steps_from(square, stand)]
                seen_twice += len(ends) > len(set(ends))
                due = [end for end in all_stands(len(square[0])) if ends.count(end) % 2]
                self.assertEqual(border(square, [stand]), due, (square, stand))
        # Both oblongs of two bars may be steps; then their end is in no border.
        self.assertGreater(seen_twice, 0)

    def test_as_looked(self):
        for square in some_squares()[::3] + [TIED, THREEFOIL]:
            for crowd in some_crowds(len(square[0])):
                if len(crowd) < 100:
                    found = border(square, crowd)
                    self.assertEqual(found, border_looked(square, crowd), (square, crowd))
                    self.assertEqual(found, sorted(set(found)))
                    self.assertTrue(all(is_stand(len(square[0]), stand) for stand in found))

    def test_of_crowds_added(self):
        for square in (TIED, TOLD, THREEFOIL):
            crowds = some_crowds(len(square[0]))
            for one, other in zip(crowds, crowds[1:]):
                self.assertEqual(border(square, added(one, other)), added(border(square, one), border(square, other)))

    def test_of_a_border_is_nothing(self):
        for square in squares_up_to(3) + all_squares(4)[::5] + [TIED, TOLD, THREEFOIL] + all_squares(5)[::880]:
            for stand in all_stands(len(square[0])):
                self.assertEqual(border(square, border(square, [stand])), [], (square, stand))
            for crowd in some_crowds(len(square[0])):
                self.assertEqual(border(square, border(square, crowd)), [], square)

    def test_of_a_border_of_six_is_nothing(self):
        for square in few_of_six():
            for stand in all_stands(6)[::37]:
                self.assertEqual(border(square, border(square, [stand])), [], (square, stand))
        self.assertEqual(border(EIGHT, border(EIGHT, all_stands(6))), [])

    def test_handed_crowds_stay_and_told_ones_are_new(self):
        for square in (PLAIN, TOLD, THREEFOIL):
            for crowd in some_crowds(len(square[0])):
                kept = list(crowd)
                found = border(square, crowd)
                self.assertIsNot(found, crowd)
                self.assertIsNot(found, border(square, crowd))
                due = list(found)
                found.append(None)
                found.reverse()
                self.assertEqual(crowd, kept)
                self.assertEqual(border(square, crowd), due)
                told = border(square, crowd)
                crowd.clear()
                self.assertEqual(told, due)


class TwoStepsTest(unittest.TestCase):
    def test_of_instance(self):
        self.assertEqual(two_steps(PLAIN, (0, 1)), [])
        for stand in all_stands(3):
            self.assertEqual(two_steps(ROUND, stand), [])
        self.assertEqual(two_steps(TOLD, (0, 3, 1, 2)), [])

    def hold(self, square, stand):
        looked = ways_looked(square, stand)
        found = two_steps(square, stand)
        self.assertIs(type(found), list)
        self.assertEqual(found, sorted(looked), (square, stand))
        for way in found:
            self.assertEqual([type(bar) for bar in way], [int] * 4)
            partners = [other for other in found if other != way and looked[other] == looked[way]]
            self.assertEqual(len(partners), 1, (square, stand, way))
            told = partner(square, stand, way)
            self.assertIs(type(told), tuple)
            self.assertEqual(told, partners[0], (square, stand, way))
            self.assertEqual(partner(square, stand, told), way, (square, stand, way))
        return len(found)

    def test_every_way_has_its_one_partner(self):
        squares = all_squares(2) + all_squares(3) + all_squares(4)[::3] + [TIED, TOLD]
        many = [self.hold(square, stand) for square in squares for stand in all_stands(len(square[0]))]
        self.assertGreater(sum(many), 100)

    def test_every_way_of_five(self):
        for square in [THREEFOIL, ((0, 1, 2, 3, 4), (1, 2, 3, 4, 0))] + all_squares(5)[::1320]:
            many = [self.hold(square, stand) for stand in all_stands(5)[::2]]
            self.assertGreater(sum(many), 0)

    def test_ways_of_six(self):
        for square in few_of_six() + [((0, 1, 2, 3, 4, 5), (1, 2, 3, 4, 5, 0))]:
            many = [self.hold(square, stand) for stand in all_stands(6)[::29]]
            self.assertGreater(sum(many), 0)

    def test_told_lists_are_the_askers_own(self):
        for square in (PLAIN, TIED, THREEFOIL, THREE_LINES):
            for stand in all_stands(len(square[0]))[:12]:
                kept = list(two_steps(square, stand))
                found = two_steps(square, stand)
                self.assertIsNot(found, two_steps(square, stand))
                found.append((0, 0, 0, 0))
                found.reverse()
                self.assertEqual(two_steps(square, stand), kept)
                for way in kept:
                    self.assertEqual(partner(square, stand, partner(square, stand, way)), way)


if __name__ == "__main__":
    unittest.main()
