"""Point 4, what a square is, and point 5, the lines; point 2 as far as it bears on them."""

import copy
import unittest

from rookborders import errors
from rookborders.squares import is_square, lines_of, vet
from walker import Walked, all_squares, many_squares

RINGS = (0, 1, 2, 3)
CROSSES = (1, 2, 3, 0)

SQUARES = (
    ((0, 1), (1, 0)),
    ((1, 0), (0, 1)),
    ((0, 1, 2), (1, 2, 0)),
    ((2, 0, 1), (0, 1, 2)),
    (RINGS, CROSSES),
    ((3, 1, 0, 2), (1, 0, 2, 3)),
    ((0, 1, 2, 3, 4), (2, 3, 4, 0, 1)),
    ((4, 2, 0, 1, 3), (0, 1, 2, 3, 4)),
    ((0, 1, 2, 3, 4, 5), (3, 4, 5, 0, 1, 2)),
    ((5, 3, 1, 0, 2, 4), (0, 5, 2, 4, 3, 1)),
)


def round_of(size):
    """A thing made like a square, of however many columns."""
    rows = tuple(range(size))
    return (rows, rows[1:] + rows[:1])


def with_number(thing, side, column, row):
    """The thing with something else in one number's place."""
    marks = [list(thing[0]), list(thing[1])]
    marks[side][column] = row
    return (tuple(marks[0]), tuple(marks[1]))


def strange_numbers():
    """Square-like things with what is no fitting number in one number's place."""
    strange = (-1, -4, 4, 5, 999999999999, -999999999999, True, False, None, "", "0", "1")
    strange += ([], [0], [1], (), (0,), (1,), ((((),),),), [None, "x"])
    return [
        with_number((RINGS, CROSSES), side, column, row)
        for row in strange
        for side in (0, 1)
        for column in range(4)
    ]


def truths_for_numbers():
    """Squares but for a truth that Python counts as the very number that is due."""
    return [
        ((False, 1), (1, 0)), ((0, True), (1, 0)), ((0, 1), (True, 0)), ((0, 1), (1, False)),
        ((False, True), (True, False)),
        ((0, 1, 2, 3, 4, 5), (True, 2, 3, 4, 5, 0)), ((False, 1, 2), (1, 2, 0)),
    ]


def wrong_counts():
    """Things with a number twice, one left out, one put in, or unlike lengths."""
    return [
        ((0, 0, 2, 3), CROSSES), ((0, 1, 2, 2), CROSSES), (RINGS, (1, 2, 3, 3)), (RINGS, (1, 1, 3, 0)),
        ((0, 0), (1, 1)), ((0, 0), (1, 0)), ((0, 1), (1, 1)), ((1, 2), (2, 1)), ((1, 2), (3, 4)),
        ((0, 1, 2), CROSSES), (RINGS, (1, 2, 3)), (RINGS, (1, 2, 0)), ((0, 1, 2), (1, 0)),
        ((0, 1, 3), (1, 3, 0)), ((0, 2, 3), CROSSES), ((0, 1, 2), (1, 2, 3)),
        ((0, 1, 2, 3, 4), CROSSES), (RINGS, (1, 2, 3, 0, 4)), (RINGS, (1, 2, 3, 4, 0)),
        ((0, 1, 2, 3, 3), CROSSES), (RINGS, (1, 2, 3, 0, 0)), ((0, 1), (1, 0, 2)), ((0, 1, 2), (1, 0)),
        ((), CROSSES), (RINGS, ()), ((0, 1, 2, 3, 4, 5), (1, 2, 3, 4, 5, 0, 6)),
    ]


def marks_in_one_cell():
    """Things that are squares but for ring and cross in one cell."""
    return [
        ((0, 1), (0, 1)), ((1, 0), (1, 0)), ((0, 1, 2), (0, 2, 1)), ((0, 1, 2), (1, 0, 2)),
        ((2, 1, 0), (0, 1, 2)), (RINGS, (1, 2, 0, 3)), (RINGS, (0, 2, 3, 1)), (RINGS, RINGS),
        ((0, 1, 2, 3, 4, 5), (1, 2, 3, 4, 0, 5)),
    ]


def wrong_shapes():
    """Things with lists for tuples, one tuple, three tuples, nothing, and other things."""
    return [
        [RINGS, CROSSES], (list(RINGS), CROSSES), (RINGS, list(CROSSES)), (list(RINGS), list(CROSSES)),
        [list(RINGS), list(CROSSES)], [[0, 1], [1, 0]],
        (RINGS,), RINGS, CROSSES, ((RINGS, CROSSES),), (0, 1), (1, 0),
        (RINGS, CROSSES, RINGS), (RINGS, CROSSES, ()), (RINGS, CROSSES, None), (RINGS, CROSSES, CROSSES, RINGS),
        (), [], None, True, False, 0, 1, -1, 2, 999999999999, "", "ox/xo", "01", "square",
        ((), ()), ([], []), ("", ""), (None, None), (RINGS, None), (None, CROSSES), (0, CROSSES), (RINGS, 1),
        ("01", "10"), ("0123", "1230"), (("0", "1"), ("1", "0")), (True, False), (RINGS, True),
        ((RINGS, CROSSES), (RINGS, CROSSES)), (((0, 1), (1, 0)), ((1, 0), (0, 1))),
        ((((((),),),),),), [[[[[[]]]]]], tuple(range(400)), list(range(400)), "x" * 400,
        (tuple(range(200)), tuple(range(199, -1, -1))), {0: 1},
    ]


def wrong_sizes():
    return [round_of(0), round_of(1), ((0,), (1,)), round_of(7), round_of(8), round_of(12)]


def no_squares():
    return (
        strange_numbers() + truths_for_numbers() + wrong_counts()
        + marks_in_one_cell() + wrong_shapes() + wrong_sizes()
    )


class IsSquareTest(unittest.TestCase):
    def test_squares_of_each_size_are_squares(self):
        self.assertEqual({len(square[0]) for square in SQUARES}, {2, 3, 4, 5, 6})
        for square in SQUARES + tuple(round_of(size) for size in range(2, 7)):
            with self.subTest(square):
                self.assertIs(is_square(square), True)

    def test_many_squares_are_squares(self):
        self.assertEqual([len(all_squares(size)) for size in (2, 3, 4)], [2, 12, 216])
        for square in many_squares():
            self.assertIs(is_square(square), True, square)

    def test_all_tuples_of_three_small_numbers(self):
        rows = [(a, b, c) for a in range(-1, 4) for b in range(-1, 4) for c in range(-1, 4)]
        judged = [(one, other) for one in rows for other in rows if is_square((one, other))]
        self.assertEqual(judged, sorted(all_squares(3)))

    def test_things_of_one_and_of_seven_columns_are_none(self):
        for thing in wrong_sizes():
            with self.subTest(thing):
                self.assertIs(is_square(thing), False)

    def test_a_strange_thing_in_a_numbers_place(self):
        for thing in strange_numbers() + truths_for_numbers():
            with self.subTest(thing):
                self.assertIs(is_square(thing), False)

    def test_a_number_twice_or_left_out_or_put_in(self):
        for thing in wrong_counts():
            with self.subTest(thing):
                self.assertIs(is_square(thing), False)

    def test_ring_and_cross_in_one_cell(self):
        for thing in marks_in_one_cell():
            with self.subTest(thing):
                self.assertIs(is_square(thing), False)

    def test_other_shapes(self):
        for thing in wrong_shapes():
            with self.subTest(thing):
                self.assertIs(is_square(thing), False)


class VetTest(unittest.TestCase):
    def test_squares_are_told_true(self):
        for square in SQUARES:
            with self.subTest(square):
                self.assertIs(vet(square), True)

    def test_all_else_is_refused(self):
        others = (
            errors.NoMove, errors.TooMany, errors.NoPart, errors.NotOne,
            errors.NoPaper, errors.NoText, errors.NoRow, errors.NoStep,
        )
        for thing in no_squares():
            with self.subTest(thing):
                with self.assertRaises(errors.NoSquare) as taken:
                    vet(thing)
                self.assertIsInstance(taken.exception, errors.RookError)
                self.assertIsInstance(taken.exception, ValueError)
                self.assertNotIsInstance(taken.exception, others)

    def test_what_is_handed_in_stays(self):
        for thing in no_squares():
            before = copy.deepcopy(thing)
            is_square(thing)
            with self.assertRaises(errors.NoSquare):
                vet(thing)
            self.assertEqual(repr(thing), repr(before))

    def test_a_list_within_stays_the_same_list(self):
        rows = [3, 2, 1, 0]
        for thing in (rows, [rows, rows], (rows, CROSSES), (RINGS, rows), (RINGS, (rows, 1, 2, 3))):
            self.assertIs(is_square(thing), False)
            self.assertEqual(rows, [3, 2, 1, 0])

    def test_nothing_hangs_on_what_was_asked_before(self):
        self.assertIs(is_square(((0, True), (1, 0))), False)
        self.assertIs(is_square(((0, 1), (1, 0))), True)
        self.assertIs(is_square(((0, True), (1, 0))), False)
        thing = [[0, 1], [1, 0]]
        self.assertIs(is_square(thing), False)
        self.assertIs(is_square((tuple(thing[0]), tuple(thing[1]))), True)
        self.assertIs(is_square(thing), False)


class LinesTest(unittest.TestCase):
    def test_one_line(self):
        self.assertEqual(lines_of(((0, 1), (1, 0))), [[0, 1]])
        self.assertEqual(lines_of(((1, 0, 2), (0, 2, 1))), [[0, 2, 1]])
        self.assertEqual(lines_of(((0, 1, 2), (1, 2, 0))), [[0, 2, 1]])
        self.assertEqual(lines_of(((1, 2, 0), (0, 1, 2))), [[0, 1, 2]])
        self.assertEqual(lines_of(((0, 1, 2, 3, 4), (2, 3, 4, 0, 1))), [[0, 3, 1, 4, 2]])

    def test_two_lines(self):
        self.assertEqual(lines_of(((0, 1, 2, 3), (2, 3, 0, 1))), [[0, 2], [1, 3]])
        self.assertEqual(lines_of(((0, 1, 2, 3), (3, 2, 1, 0))), [[0, 3], [1, 2]])
        # The line of column 0 is the longer one, and goes on to column 4 first.
        self.assertEqual(lines_of(((0, 1, 2, 3, 4), (2, 3, 4, 1, 0))), [[0, 4, 2], [1, 3]])

    def test_three_lines(self):
        self.assertEqual(lines_of(((0, 1, 2, 3, 4, 5), (3, 4, 5, 0, 1, 2))), [[0, 3], [1, 4], [2, 5]])
        self.assertEqual(lines_of(((0, 1, 2, 3, 4, 5), (5, 4, 3, 2, 1, 0))), [[0, 5], [1, 4], [2, 3]])

    def test_lines_are_as_walked(self):
        for square in many_squares() + list(SQUARES):
            self.assertEqual(lines_of(square), Walked(square).lines, square)

    def test_each_from_its_least_column_sorted_every_column_once(self):
        for square in many_squares() + list(SQUARES):
            lines = lines_of(square)
            self.assertEqual(lines, sorted(lines), square)
            self.assertEqual([line[0] for line in lines], [min(line) for line in lines], square)
            columns = sorted(column for line in lines for column in line)
            self.assertEqual(columns, list(range(len(square[0]))), square)

    def test_kinds(self):
        for square in SQUARES:
            lines = lines_of(square)
            self.assertIs(type(lines), list)
            self.assertEqual({type(line) for line in lines}, {list})
            self.assertEqual({type(column) for line in lines for column in line}, {int})

    def test_told_lists_are_the_askers_own(self):
        for square in SQUARES:
            told = lines_of(square)
            kept = copy.deepcopy(told)
            for line in told:
                line.append(99)
                line[0] = -1
            told.clear()
            self.assertEqual(lines_of(square), kept)

    def test_no_list_is_told_twice(self):
        square = ((0, 1, 2, 3), (2, 3, 0, 1))
        one, other = lines_of(square), lines_of(square)
        self.assertIsNot(one, other)
        told = [id(line) for line in one + other]
        self.assertEqual(len(told), len(set(told)))


if __name__ == "__main__":
    unittest.main()
