"""Point 6: crossings, twists, ties and words; point 2 as far as it bears on them."""

import copy
import unittest

from rookborders.crossings import crossings_of, ties_of, twists_of, words_of
from rookborders.squares import lines_of
from walker import Walked, many_squares, squares_up_to

PLAIN = ((0, 1), (1, 0))
# The one crossing of a square of three, gone both ways about and mirrored.
LOOP = ((1, 0, 2), (0, 2, 1))
LOOP_BACK = ((0, 2, 1), (1, 0, 2))
LOOP_MIRRORED = ((2, 0, 1), (1, 2, 0))
# Two lines tied, by both signs.
TIED = ((0, 1, 2, 3), (2, 3, 0, 1))
TIED_OTHERWISE = ((0, 3, 2, 1), (2, 1, 0, 3))
# Two lines that cross one another by unlike signs.
LOOSE = ((0, 1, 3, 2), (2, 3, 1, 0))
THREEFOIL = ((0, 1, 2, 3, 4), (2, 3, 4, 0, 1))
THREEFOIL_MIRRORED = ((4, 3, 2, 1, 0), (1, 0, 4, 3, 2))
THREE_LINES = ((0, 1, 2, 3, 4, 5), (3, 4, 5, 0, 1, 2))
THREE_APART = ((0, 1, 2, 3, 4, 5), (1, 0, 3, 2, 5, 4))
# One line with crossings of both signs.
EIGHT = ((0, 2, 1, 4, 3, 5), (4, 5, 3, 2, 0, 1))
UNEVEN = ((0, 1, 2, 4, 3), (1, 3, 4, 0, 2))
# Two lines tied, the second one twisted, too.
TWISTED = ((0, 1, 2, 4, 3), (2, 3, 0, 1, 4))

SQUARES = (
    PLAIN, LOOP, LOOP_BACK, LOOP_MIRRORED, TIED, TIED_OTHERWISE, LOOSE,
    THREEFOIL, THREEFOIL_MIRRORED, THREE_LINES, THREE_APART, EIGHT,
    UNEVEN, TWISTED,
)
TELLERS = (crossings_of, twists_of, ties_of, words_of)


class CrossingsTest(unittest.TestCase):
    def test_none(self):
        self.assertEqual(crossings_of(PLAIN), [])
        self.assertEqual(crossings_of(((1, 0), (0, 1))), [])
        self.assertEqual(crossings_of(THREE_APART), [])

    def test_of_a_line_with_itself(self):
        self.assertEqual(crossings_of(LOOP), [(1, 1, 1)])
        self.assertEqual(crossings_of(LOOP_MIRRORED), [(1, 1, -1)])
        self.assertEqual(crossings_of(THREEFOIL), [(1, 2, -1), (2, 3, -1), (3, 1, -1)])
        self.assertEqual(crossings_of(THREEFOIL_MIRRORED), [(1, 1, 1), (2, 3, 1), (3, 2, 1)])
        self.assertEqual(crossings_of(EIGHT), [(1, 4, -1), (2, 2, 1), (3, 3, 1), (4, 1, -1)])

    def test_gone_the_other_way_about_signs_stay(self):
        self.assertEqual(crossings_of(LOOP_BACK), [(1, 1, 1)])
        for rings, crosses in squares_up_to(4):
            self.assertEqual(crossings_of((rings, crosses)), crossings_of((crosses, rings)))

    def test_of_two_lines(self):
        self.assertEqual(crossings_of(TIED), [(1, 2, -1), (2, 1, -1)])
        self.assertEqual(crossings_of(TIED_OTHERWISE), [(1, 2, 1), (2, 1, 1)])
        self.assertEqual(crossings_of(LOOSE), [(1, 2, -1), (2, 2, 1)])

    def test_marks_at_an_end_are_no_crossing(self):
        # Each row ends in the column beside it, so no row goes past a column.
        self.assertEqual(crossings_of(((0, 1, 2), (1, 2, 0))), [])
        self.assertEqual(crossings_of(((0, 1, 2, 3), (3, 2, 1, 0))), [])

    def test_as_walked(self):
        for square in many_squares() + list(SQUARES):
            self.assertEqual(crossings_of(square), Walked(square).crossings, square)

    def test_sorted_tuples_of_three_whole_numbers(self):
        for square in squares_up_to(4) + list(SQUARES):
            told = crossings_of(square)
            self.assertIs(type(told), list)
            self.assertEqual(told, sorted(told))
            for crossing in told:
                self.assertIs(type(crossing), tuple)
                self.assertEqual([type(number) for number in crossing], [int, int, int])
                self.assertIn(crossing[2], (1, -1))


class TwistsTest(unittest.TestCase):
    def test_one_line(self):
        self.assertEqual(twists_of(PLAIN), [0])
        self.assertEqual(twists_of(LOOP), [1])
        self.assertEqual(twists_of(LOOP_MIRRORED), [-1])
        self.assertEqual(twists_of(THREEFOIL), [-3])
        self.assertEqual(twists_of(THREEFOIL_MIRRORED), [3])

    def test_crossings_of_two_lines_twist_neither(self):
        self.assertEqual(twists_of(TIED), [0, 0])
        self.assertEqual(twists_of(TIED_OTHERWISE), [0, 0])
        self.assertEqual(twists_of(THREE_LINES), [0, 0, 0])

    def test_each_line_has_its_own(self):
        # A loop of three columns lies beside a line without crossings.
        self.assertEqual(twists_of(((1, 0, 2, 3, 4), (0, 2, 1, 4, 3))), [1, 0])
        self.assertEqual(twists_of(((0, 1, 3, 2, 4), (1, 0, 2, 4, 3))), [0, 1])
        self.assertEqual(twists_of(TWISTED), [0, 1])

    def test_both_signs_add_up(self):
        self.assertEqual(twists_of(EIGHT), [0])
        self.assertEqual(crossings_of(UNEVEN), [(2, 3, -1), (3, 2, -1), (3, 3, 1)])
        self.assertEqual(twists_of(UNEVEN), [-1])

    def test_as_walked(self):
        for square in many_squares() + list(SQUARES):
            self.assertEqual(twists_of(square), Walked(square).twists, square)

    def test_kinds(self):
        for square in SQUARES:
            told = twists_of(square)
            self.assertIs(type(told), list)
            self.assertEqual([type(twist) for twist in told], [int] * len(lines_of(square)))


class TiesTest(unittest.TestCase):
    def test_no_tie_of_one_line(self):
        for square in (PLAIN, LOOP, THREEFOIL, EIGHT):
            self.assertEqual(ties_of(square), [])

    def test_two_lines(self):
        self.assertEqual(ties_of(TIED), [(0, 1, -1)])
        self.assertEqual(ties_of(TIED_OTHERWISE), [(0, 1, 1)])
        self.assertEqual(ties_of(TWISTED), [(0, 1, -1)])

    def test_two_lines_that_cross_and_are_not_tied(self):
        self.assertEqual(lines_of(LOOSE), [[0, 3], [1, 2]])
        self.assertEqual(words_of(LOOSE), [[(1, False), (0, False)], [(0, True), (1, True)]])
        self.assertEqual(ties_of(LOOSE), [(0, 1, 0)])

    def test_two_lines_that_do_not_cross(self):
        self.assertEqual(ties_of(((0, 1, 2, 3), (3, 2, 1, 0))), [(0, 1, 0)])
        self.assertEqual(ties_of(((0, 1, 2, 3), (1, 0, 3, 2))), [(0, 1, 0)])

    def test_three_lines(self):
        self.assertEqual(ties_of(THREE_LINES), [(0, 1, -1), (0, 2, -1), (1, 2, -1)])
        self.assertEqual(ties_of(THREE_APART), [(0, 1, 0), (0, 2, 0), (1, 2, 0)])
        # Here the last line is gone the other way about.
        self.assertEqual(
            ties_of(((0, 1, 5, 3, 4, 2), (3, 4, 2, 0, 1, 5))), [(0, 1, -1), (0, 2, 1), (1, 2, 1)]
        )

    def test_as_walked(self):
        for square in many_squares() + list(SQUARES):
            walked = Walked(square)
            self.assertEqual(walked.odd_sums, [], square)
            self.assertEqual(ties_of(square), walked.ties, square)

    def test_kinds(self):
        for square in SQUARES:
            told = ties_of(square)
            self.assertIs(type(told), list)
            self.assertEqual(told, sorted(told))
            for tie in told:
                self.assertIs(type(tie), tuple)
                self.assertEqual([type(number) for number in tie], [int, int, int])
                self.assertLess(tie[0], tie[1])


class WordsTest(unittest.TestCase):
    def test_without_crossings(self):
        self.assertEqual(words_of(PLAIN), [[]])
        self.assertEqual(words_of(THREE_APART), [[], [], []])

    def test_one_line(self):
        self.assertEqual(words_of(LOOP), [[(0, False), (0, True)]])
        self.assertEqual(words_of(LOOP_BACK), [[(0, True), (0, False)]])
        self.assertEqual(
            words_of(THREEFOIL),
            [[(2, True), (1, False), (0, True), (2, False), (1, True), (0, False)]],
        )
        self.assertEqual(
            words_of(EIGHT),
            [[
                (3, True), (2, False), (1, True), (3, False),
                (0, True), (1, False), (2, True), (0, False),
            ]],
        )

    def test_more_lines(self):
        self.assertEqual(words_of(TIED), [[(1, True), (0, False)], [(0, True), (1, False)]])
        self.assertEqual(
            words_of(THREE_LINES),
            [
                [(3, True), (4, True), (1, False), (0, False)],
                [(0, True), (3, False), (5, True), (2, False)],
                [(2, True), (1, True), (4, False), (5, False)],
            ],
        )

    def test_a_line_may_begin_over(self):
        # The second line begins at the cross of column 1, and column 1 goes over a row first.
        self.assertEqual(words_of(TIED)[1][0], (0, True))
        self.assertEqual(words_of(TIED_OTHERWISE)[1][0], (0, True))

    def test_as_walked(self):
        for square in many_squares() + list(SQUARES):
            self.assertEqual(words_of(square), Walked(square).words, square)

    def test_each_crossing_once_over_and_once_beneath(self):
        for square in squares_up_to(4) + list(SQUARES):
            passed = sorted(passing for word in words_of(square) for passing in word)
            due = [(k, over) for k in range(len(crossings_of(square))) for over in (False, True)]
            self.assertEqual(passed, due, square)

    def test_kinds(self):
        for square in SQUARES:
            words = words_of(square)
            self.assertIs(type(words), list)
            self.assertEqual([type(word) for word in words], [list] * len(lines_of(square)))
            for passing in [passing for word in words for passing in word]:
                self.assertIs(type(passing), tuple)
                self.assertEqual([type(part) for part in passing], [int, bool])


def spoil(told):
    """Change a told list, and the lists within it, as an asker may."""
    for part in told:
        if isinstance(part, list):
            part.reverse()
            part.append((99, True))
    told.append(None)
    told.reverse()


class OwnListsTest(unittest.TestCase):
    def test_told_lists_are_the_askers_own(self):
        for square in SQUARES:
            kept = [copy.deepcopy(teller(square)) for teller in TELLERS]
            for teller in TELLERS:
                spoil(teller(square))
                self.assertEqual([again(square) for again in TELLERS], kept, square)

    def test_no_list_is_told_twice(self):
        for square in (PLAIN, THREE_APART, TIED):
            for teller in TELLERS:
                self.assertIsNot(teller(square), teller(square))
            words = words_of(square) + words_of(square)
            self.assertEqual(len({id(word) for word in words}), len(words))

    def test_nothing_hangs_on_what_was_asked_before(self):
        ahead = [teller(THREEFOIL) for teller in TELLERS]
        for square in SQUARES[::-1]:
            for teller in TELLERS[::-1]:
                teller(square)
        self.assertEqual([teller(THREEFOIL) for teller in TELLERS], ahead)


if __name__ == "__main__":
    unittest.main()
