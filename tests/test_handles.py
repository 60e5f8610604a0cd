"""Point 25: handles and one-sided squares; points 2 and 3 as far as they bear on them."""

import copy
import unittest
from collections import Counter

from rookborders.crossings import crossings_of, words_of
from rookborders.errors import NotOne, RookError
from rookborders.handles import is_one_sided, least_by_sum, least_by_table, of_surface, rounds_of
from rookborders.moves import corner_put
from rookborders.squares import lines_of
from rookborders.sums import by_crossings
from rookborders.tables import rest
from second_look import EIGHT, PLAIN, THREEFOIL, THREE_LINES, TIED, TOLD, few_of_six
from walker import Walked, all_squares, squares_of, squares_up_to

NINE = ((4, 5, 1, 0, 3, 2), (3, 2, 4, 5, 0, 1))
ONE_CROSSING = ((0, 1, 2, 3), (2, 3, 1, 0))
TWO_APART = ((0, 1, 2, 3), (1, 0, 3, 2))
THREE_APART = ((0, 1, 2, 3, 4, 5), (1, 0, 3, 2, 5, 4))
OF_ONE_LINE = (least_by_sum, least_by_table, of_surface, rounds_of)


def many_squares():
    six = squares_of([(2, 0, 5, 1, 4, 3), (0, 2, 1, 4, 3, 5)], [(3, 4, 5, 0, 1, 2), (5, 3, 4, 0, 2, 1), NINE[1]])
    return squares_up_to(4) + all_squares(5)[::120] + [THREEFOIL, NINE] + few_of_six() + six


def with_one_line():
    return [square for square in many_squares() if len(lines_of(square)) == 1]


def rounds_looked(word):
    """The rounds, by leading from place to place on a word gone round twice."""
    if not word:
        return [[]]
    after = {}
    for place, (number, over) in enumerate(word):
        others = [at for at, (same, _) in enumerate(word) if same == number and at != place]
        after[place] = (list(range(len(word))) * 2)[others[0] + 1]
    found, left = [], set(after)
    while left:
        start = at = min(left)
        found.append([])
        while at in left:
            left.remove(at)
            found[-1].append(at)
            at = after[at]
        assert at == start
    return found


class RoundsTest(unittest.TestCase):
    def test_of_instance(self):
        self.assertEqual(rounds_of(PLAIN), [[]])
        self.assertEqual(words_of(ONE_CROSSING), [[(0, True), (0, False)]])
        self.assertEqual(rounds_of(ONE_CROSSING), [[0], [1]])
        self.assertEqual(len(words_of(THREEFOIL)[0]), 6)
        self.assertEqual(rounds_of(THREEFOIL), [[0, 4, 2], [1, 5, 3]])

    def test_as_looked(self):
        seen = Counter()
        for square in with_one_line():
            found = rounds_of(square)
            self.assertIs(type(found), list)
            self.assertEqual({type(one) for one in found}, {list})
            self.assertEqual({type(place) for one in found for place in one} - {int}, set())
            self.assertEqual(found, rounds_looked(Walked(square).words[0]), square)
            self.assertEqual(found, sorted(found))
            self.assertEqual([one[:1] for one in found], [[min(one)] if one else [] for one in found])
            self.assertEqual(sorted(place for one in found for place in one), list(range(len(words_of(square)[0]))))
            seen[len(crossings_of(square))] += 1
        self.assertLessEqual({0, 1, 3, 4, 9}, set(seen))

    def test_told_lists_are_the_askers_own(self):
        for square in (PLAIN, ONE_CROSSING, THREEFOIL):
            kept = copy.deepcopy(rounds_of(square))
            found = rounds_of(square)
            for one in found:
                one.append(77)
            found.append([])
            self.assertEqual(rounds_of(square), kept)


class HandlesTest(unittest.TestCase):
    def test_of_instance(self):
        due = {PLAIN: (0, 0, 0), THREEFOIL: (1, 1, 1), EIGHT: (1, 1, 1), ONE_CROSSING: (0, 0, 0)}
        for square, numbers in due.items():
            self.assertEqual((least_by_sum(square), least_by_table(square), of_surface(square)), numbers)
        self.assertEqual((least_by_sum(NINE), least_by_table(NINE)), (0, 0))

    def test_each_by_its_own_words(self):
        unlike = 0
        for square in with_one_line():
            by_sum, by_table, surface = least_by_sum(square), least_by_table(square), of_surface(square)
            self.assertEqual([type(number) for number in (by_sum, by_table, surface)], [int] * 3)
            self.assertEqual(by_sum, max(power for power, many in by_crossings(square)))
            self.assertEqual(2 * by_table, max(lean for grade, lean, many in rest(square)))
            walked = Walked(square)
            self.assertEqual(2 * surface, len(walked.crossings) - len(rounds_looked(walked.words[0])) + 1)
            self.assertLessEqual(0, by_sum, square)
            self.assertLessEqual(by_sum, by_table, square)
            self.assertLessEqual(by_table, surface, square)
            unlike += by_table < surface
        # Somewhere the told surface has more handles than need be.
        self.assertGreater(unlike, 0)

    def test_more_lines_than_one(self):
        squares = [square for square in many_squares() if len(lines_of(square)) > 1] + [THREE_LINES, THREE_APART]
        self.assertEqual({len(lines_of(square)) for square in squares}, {2, 3})
        for square in squares:
            for deed in OF_ONE_LINE:
                with self.assertRaises(RookError) as taken:
                    deed(square)
                self.assertIs(type(taken.exception), NotOne)


class OneSidedTest(unittest.TestCase):
    def test_of_instance(self):
        for square in (PLAIN, THREEFOIL, EIGHT, TIED, THREE_LINES, corner_put(TIED, 0, 0)):
            self.assertIs(is_one_sided(square), True, square)
        for square in (TWO_APART, THREE_APART):
            self.assertIs(is_one_sided(square), False, square)

    def test_as_the_rest_tells(self):
        seen = Counter()
        for square in many_squares():
            leans = [lean for grade, lean, many in rest(square) for _ in range(many)]
            due = leans.count(max(leans)) == 1
            self.assertIs(is_one_sided(square), due, square)
            seen[len(lines_of(square)), due] += 1
        self.assertLessEqual({(1, True), (2, True), (2, False), (3, True)}, set(seen))

    def test_classes_at_the_greatest_lean_in_unlike_grades_count_together(self):
        top = [(grade, many) for grade, lean, many in rest(TWO_APART) if lean == 0]
        self.assertEqual(top, [(-1, 1), (0, 1)])
        self.assertIs(is_one_sided(TWO_APART), False)
        self.assertIs(is_one_sided(TOLD), is_one_sided(corner_put(TOLD, 1, 1)))


if __name__ == "__main__":
    unittest.main()
