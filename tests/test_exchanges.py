"""Points 19 to 21: turns, crowds led and tied by an exchange; points 2 and 3 as far as they bear on them."""

import unittest

from rookborders.borders import added, border
from rookborders.exchanges import led, tied, turn_of
from rookborders.moves import columns_changed, rows_changed, tipped
from rookborders.stands import all_stands, grade, lean, stand_tipped
from second_look import (
    THREEFOIL, TOLD, bent_looked, border_looked, exchange_looked, home_looked, odd_ones, turn_looked,
    twice_bent_looked,
)
from walker import all_squares, squares_up_to

OTHER = ((1, 2, 0, 3), (0, 3, 1, 2))


def exchanges_of(squares):
    """Each square with each c by which columns may be exchanged."""
    return [
        (square, c)
        for square in squares
        for c in range(len(square[0]) - 1)
        if exchange_looked(square, c) is not None
    ]


def of_four():
    return exchanges_of(squares_up_to(4))


def of_five():
    return exchanges_of(all_squares(5)[::210] + [THREEFOIL])


def some_crowds(size):
    stands = all_stands(size)
    return [[], stands[:1], stands[-1:], stands[::2], stands[1::3], stands[3:9], stands]


class ToldTest(unittest.TestCase):
    """The example of point 21, each thing that it tells."""

    def test_the_other_square(self):
        self.assertEqual(columns_changed(TOLD, 1), OTHER)

    def test_turns(self):
        self.assertEqual(turn_of(TOLD, 1), 1)
        self.assertEqual(turn_of(OTHER, 1), 3)

    def test_border(self):
        self.assertEqual(border(TOLD, [(0, 3, 1, 2)]), [(0, 3, 2, 1)])

    def test_led_and_tied(self):
        self.assertEqual(led(TOLD, 1, [(0, 3, 1, 2)]), [(0, 3, 2, 1)])
        self.assertEqual(tied(TOLD, 1, [(0, 3, 1, 2)]), [])
        self.assertEqual(led(OTHER, 1, [(0, 3, 2, 1)]), [(0, 2, 3, 1), (0, 3, 1, 2)])
        self.assertEqual(tied(TOLD, 1, [(0, 3, 2, 1)]), [(0, 2, 3, 1)])


class TurnTest(unittest.TestCase):
    def test_as_gone_upwards(self):
        for square, c in of_four() + of_five():
            other = exchange_looked(square, c)
            for one in (square, other):
                found = turn_of(one, c)
                self.assertIs(type(found), int)
                self.assertEqual(found, turn_looked(one, c), (one, c))

    def test_each_side_of_the_marks(self):
        # The marks of column 1 lie between those of column 0, above both, beneath both, and on both sides.
        self.assertEqual(turn_of(((0, 1, 2, 3), (3, 2, 0, 1)), 0), 0)
        self.assertEqual(turn_of(((3, 2, 1, 0), (0, 1, 3, 2)), 0), 0)
        self.assertEqual(turn_of(((0, 2, 1, 3), (1, 3, 0, 2)), 0), 1)
        self.assertEqual(turn_of(((3, 0, 1, 2), (2, 1, 0, 3)), 0), 3)
        self.assertEqual(turn_of(((2, 0, 1, 3), (1, 3, 0, 2)), 0), 2)


class MapsTest(unittest.TestCase):
    def hold_looked(self, square, c):
        stands = all_stands(len(square[0]))
        bent = {stand: bent_looked(square, c, stand) for stand in stands}
        twice = {stand: twice_bent_looked(square, c, stand) for stand in stands}
        for crowd in [[stand] for stand in stands] + some_crowds(len(square[0])):
            for found, ends in ((led(square, c, crowd), bent), (tied(square, c, crowd), twice)):
                self.assertIs(type(found), list)
                self.assertEqual(found, odd_ones([end for stand in crowd for end in ends[stand]]), (square, c, crowd))
        return sum(map(len, bent.values())), sum(map(len, twice.values()))

    def test_each_oblong_cell_by_cell(self):
        counts = [self.hold_looked(square, c) for square, c in of_four()[::3] + [(TOLD, 1), (OTHER, 1)]]
        for bent, twice in counts:
            self.assertGreater(bent, 0)
        self.assertGreater(sum(twice for bent, twice in counts), 0)

    def test_each_oblong_of_five(self):
        counts = [self.hold_looked(square, c) for square, c in of_five()[::7]]
        self.assertGreater(len(counts), 2)
        self.assertGreater(sum(twice for bent, twice in counts), 0)

    def test_of_none(self):
        for square, c in of_four():
            self.assertEqual((led(square, c, []), tied(square, c, [])), ([], []))

    def test_homes(self):
        for square, c in of_four():
            self.hold_homes(square, c, home_looked, all_stands(len(square[0]))[::3])
        for square, c in of_five():
            self.hold_homes(square, c, lambda one, stand: (grade(one, stand), lean(one, stand)), all_stands(5))

    def hold_homes(self, square, c, home, stands):
        other = columns_changed(square, c)
        for stand in stands:
            own = home(square, stand)
            for end in led(square, c, [stand]):
                self.assertEqual(home(other, end), own, (square, c, stand))
            for end in tied(square, c, [stand]):
                self.assertEqual(home(square, end), (own[0] + 1, own[1]), (square, c, stand))

    def goes_with_borders(self, square, c, crowd, edge):
        other = columns_changed(square, c)
        self.assertEqual(edge(other, led(square, c, crowd)), led(square, c, edge(square, crowd)), (square, c, crowd))
        there_and_back = added(led(other, c, led(square, c, crowd)), crowd)
        due = added(edge(square, tied(square, c, crowd)), tied(square, c, edge(square, crowd)))
        self.assertEqual(there_and_back, due, (square, c, crowd))

    def test_they_go_with_the_borders(self):
        for square, c in of_four():
            for stand in all_stands(len(square[0])):
                self.goes_with_borders(square, c, [stand], border)
        for square, c in of_four()[::12] + of_five()[::3]:
            for crowd in some_crowds(len(square[0])):
                self.goes_with_borders(square, c, crowd, border)

    def test_they_go_with_the_borders_as_looked(self):
        for square, c in of_four()[::9] + [(TOLD, 1), (OTHER, 1)]:
            for crowd in [[stand] for stand in all_stands(len(square[0]))[::2]]:
                self.goes_with_borders(square, c, crowd, border_looked)

    def test_they_go_with_the_borders_of_five(self):
        for square, c in of_five():
            for stand in all_stands(5)[::3]:
                self.goes_with_borders(square, c, [stand], border)

    def test_rows_by_the_tipped_square(self):
        seen = 0
        for square in all_squares(4)[::2] + all_squares(5)[::500]:
            for tip, r in exchanges_of([tipped(square)]):
                other = rows_changed(square, r)
                for crowd in some_crowds(len(square[0]))[1:5]:
                    def carried(one):
                        found = led(tip, r, sorted(map(stand_tipped, one)))
                        return sorted(map(stand_tipped, found))
                    self.assertEqual(border(other, carried(crowd)), carried(border(square, crowd)))
                    seen += 1
        self.assertGreater(seen, 50)

    def test_of_crowds_added(self):
        for square, c in ((TOLD, 1), (OTHER, 1)):
            crowds = some_crowds(4)
            for one, other in zip(crowds, crowds[1:]):
                for deed in (led, tied):
                    due = added(deed(square, c, one), deed(square, c, other))
                    self.assertEqual(deed(square, c, added(one, other)), due)

    def test_handed_crowds_stay_and_told_ones_are_new(self):
        for deed in (led, tied):
            for crowd in some_crowds(4):
                kept = list(crowd)
                found = deed(TOLD, 1, crowd)
                self.assertIsNot(found, crowd)
                self.assertIsNot(found, deed(TOLD, 1, crowd))
                due = list(found)
                found.append(None)
                found.reverse()
                self.assertEqual(crowd, kept)
                told = deed(TOLD, 1, crowd)
                self.assertEqual(told, due)
                crowd.clear()
                self.assertEqual(told, due)


if __name__ == "__main__":
    unittest.main()
