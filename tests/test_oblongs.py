"""Point 14: oblongs, bare and clear ones, and steps; point 2 as far as it bears on them."""

import unittest
from itertools import permutations

from rookborders.oblongs import behind, cells_of, is_bare, is_clear, steps_from
from rookborders.stands import all_stands, grade, is_stand, lean
from second_look import (
    EIGHT, PLAIN, THREEFOIL, TIED, TOLD, behind_looked, cells_looked, marks_within, oblongs_of, rooks_within,
    some_squares, steps_looked,
)
from walker import squares_up_to


def some_stands(size):
    """All stands of up to four bars, some of five and six."""
    return list(permutations(range(size)))[::{5: 11, 6: 71}.get(size, 1)]


def oblongs_within(size):
    return [(stand, a, b) for stand in some_stands(size) for a, b in oblongs_of(size)]


class OblongsTest(unittest.TestCase):
    def test_cells_of_instance(self):
        self.assertEqual(cells_of((0, 1), 0, 1), [(0, 0)])
        self.assertEqual(cells_of((0, 1), 1, 0), [(1, 1)])
        self.assertEqual(cells_of((1, 0), 0, 1), [(0, 1)])
        self.assertEqual(cells_of((0, 1, 2, 3), 0, 2), [(0, 0), (0, 1), (1, 0), (1, 1)])
        # Round by columns, by rows, and by both.
        self.assertEqual(cells_of((2, 1, 3, 0), 2, 0), [(2, 0), (2, 1), (2, 3), (3, 0), (3, 1), (3, 3)])
        self.assertEqual(cells_of((3, 1, 2, 0), 0, 1), [(0, 0), (0, 3)])
        self.assertEqual(cells_of((0, 1, 2, 3), 3, 1), [(0, 0), (0, 3), (3, 0), (3, 3)])
        self.assertEqual(cells_of((1, 0, 3, 2), 3, 0), [(3, 0), (3, 2), (3, 3)])

    def test_behind_of_instance(self):
        self.assertEqual(behind((0, 1), 0, 1), (1, 0))
        self.assertEqual(behind((2, 0, 3, 1), 3, 0), (1, 0, 3, 2))
        self.assertEqual(behind((2, 0, 3, 1), 0, 3), (1, 0, 3, 2))

    def test_bare_of_instance(self):
        self.assertIs(is_bare((0, 1, 2), 0, 2), False)
        self.assertIs(is_bare((0, 1, 2), 2, 0), True)
        self.assertIs(is_bare((0, 2, 1), 0, 2), True)
        self.assertIs(is_bare((0, 2, 1), 0, 1), True)
        # The rook at bar 0 lies within, round both ways.
        self.assertIs(is_bare((0, 1, 2, 3), 3, 1), False)
        self.assertIs(is_bare((3, 2, 0, 1), 3, 2), False)
        self.assertIs(is_bare((1, 0, 3, 2), 3, 1), True)

    def test_clear_of_instance(self):
        self.assertIs(is_clear(PLAIN, (0, 1), 0, 1), False)
        self.assertIs(is_clear(PLAIN, (1, 0), 0, 1), False)
        self.assertIs(is_clear(TOLD, (0, 3, 1, 2), 2, 3), True)
        # A ring alone, and a cross alone, are in the way.
        square = ((0, 1, 2), (1, 2, 0))
        self.assertIs(is_clear(square, (0, 1, 2), 0, 1), False)
        self.assertIs(is_clear(square, (1, 2, 0), 0, 1), False)
        self.assertIs(is_clear(square, (2, 0, 1), 0, 1), True)

    def test_as_looked(self):
        for size in range(2, 7):
            for stand, a, b in oblongs_within(size):
                cells = cells_of(stand, a, b)
                self.assertIs(type(cells), list)
                self.assertEqual(cells, cells_looked(stand, a, b), (stand, a, b))
                self.assertEqual({type(cell) for cell in cells}, {tuple})
                self.assertEqual(behind(stand, a, b), behind_looked(stand, a, b), (stand, a, b))
                self.assertIs(is_stand(size, behind(stand, a, b)), True)
                self.assertIs(is_bare(stand, a, b), not rooks_within(stand, a, b), (stand, a, b))

    def test_clear_as_looked(self):
        for square in some_squares():
            for stand, a, b in oblongs_within(len(square[0]))[::3]:
                clear = marks_within(square, stand, a, b) == (0, 0)
                self.assertIs(is_clear(square, stand, a, b), clear, (square, stand, a, b))

    def test_both_oblongs_of_two_bars_lead_to_one_stand(self):
        for size in range(2, 7):
            for stand, a, b in oblongs_within(size):
                self.assertEqual(behind(stand, a, b), behind(stand, b, a))
                self.assertEqual(behind(behind(stand, a, b), a, b), stand)
                self.assertEqual(set(cells_of(stand, a, b)) & set(cells_of(stand, b, a)), set())

    def test_grades_along_any_oblong(self):
        # By any oblong a grade falls by one, less two for each ring in it, and two for each rook.
        for square in some_squares():
            for stand, a, b in oblongs_within(len(square[0]))[::5]:
                rings, crosses = marks_within(square, stand, a, b)
                fall = grade(square, stand) - grade(square, behind(stand, a, b))
                self.assertEqual(fall, 1 - 2 * rings + 2 * len(rooks_within(stand, a, b)), (square, stand, a, b))
                less = lean(square, stand) - lean(square, behind(stand, a, b))
                self.assertEqual(less, 2 * (crosses - rings), (square, stand, a, b))

    def test_told_cells_are_the_askers_own(self):
        for stand, a, b in oblongs_within(4):
            kept = list(cells_of(stand, a, b))
            found = cells_of(stand, a, b)
            found.append(None)
            found.reverse()
            self.assertIsNot(found, cells_of(stand, a, b))
            self.assertEqual(cells_of(stand, a, b), kept)


class StepsTest(unittest.TestCase):
    def test_of_instance(self):
        self.assertEqual(steps_from(TOLD, (0, 3, 1, 2)), [(2, 3, (0, 3, 2, 1))])
        for square in (PLAIN, ((1, 0), (0, 1))):
            for stand in ((0, 1), (1, 0)):
                self.assertEqual(steps_from(square, stand), [])
        self.assertEqual(
            steps_from(((0, 1, 2), (1, 2, 0)), (2, 0, 1)),
            [(0, 1, (0, 2, 1)), (1, 2, (2, 1, 0)), (2, 0, (1, 0, 2))],
        )

    def hold(self, square, stand):
        found = steps_from(square, stand)
        self.assertIs(type(found), list)
        self.assertEqual(found, steps_looked(square, stand), (square, stand))
        self.assertEqual(found, sorted(found))
        for step in found:
            self.assertIs(type(step), tuple)
            a, b, end = step
            self.assertIs(type(end), tuple)
            self.assertEqual(grade(square, end), grade(square, stand) - 1, (square, stand, step))
            self.assertEqual(lean(square, end), lean(square, stand), (square, stand, step))
        return len(found)

    def test_every_stand_of_many_squares(self):
        squares = squares_up_to(4) + [square for square in some_squares() if len(square[0]) > 4]
        many = [self.hold(square, stand) for square in squares for stand in some_stands(len(square[0]))]
        self.assertGreater(sum(many), 1000)

    def test_every_stand_of_one_of_five(self):
        self.assertGreater(sum(self.hold(THREEFOIL, stand) for stand in all_stands(5)), 100)

    def test_told_steps_are_the_askers_own(self):
        for square in (PLAIN, TOLD, TIED, THREEFOIL, EIGHT):
            for stand in some_stands(len(square[0]))[:9]:
                kept = list(steps_from(square, stand))
                found = steps_from(square, stand)
                self.assertIsNot(found, steps_from(square, stand))
                found.append((0, 0, stand))
                found.reverse()
                self.assertEqual(steps_from(square, stand), kept)


if __name__ == "__main__":
    unittest.main()
