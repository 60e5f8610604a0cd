"""Point 22: sums of powers; point 2 as far as it bears on them."""

import copy
import time
import unittest
from itertools import permutations
from random import Random

from rookborders.errors import NoPart, RookError
from rookborders.powers import at_one, determinant, minus, parted, plus, tidy, times
from second_look import determinant_at, is_sum, worth_at

ONE = [(0, 1)]
# At so great a number two sums with numbers of up to thirty figures are worth the same only where they are the same.
FAR = 10 ** 31
NUMBERS = (1, -3, FAR)
SHARE = [(-2, -1), (0, 1)]


def any_tuples(chance, many=20):
    """Tuples in any order, powers more than once, many perhaps 0."""
    return [(chance.randint(-60, 60), chance.randint(-3, 3)) for _ in range(chance.randint(0, many))]


def some_sums():
    chance = Random(5)
    plain = [[], ONE, [(0, -1)], [(5, 3)], [(-60, 1)], [(60, -2)], [(-60, 7), (60, -7)], SHARE, [(0, 1), (1, 1)]]
    plain += [[(-1, 1), (0, -1), (1, 1)], [(-999, 999999999999)], [(3, 2), (4, -2)]]
    return plain + [tidy(any_tuples(chance)) for _ in range(12)]


def sign_of(order):
    unlike = [True for at, one in enumerate(order) for other in order[at + 1:] if one > other]
    return -1 if len(unlike) % 2 else 1


def by_all_orders(table):
    found = []
    for order in permutations(range(len(table))):
        product = [(0, sign_of(order))]
        for row, column in zip(table, order):
            product = [(p + q, m * k) for p, m in product for q, k in row[column]]
        found += product
    return tidy(found)


def some_table(chance, size, many=4):
    def entry():
        return tidy([(chance.randint(-6, 6), chance.randint(-9, 9)) for _ in range(chance.randint(0, many))])
    return [[entry() for _ in range(size)] for _ in range(size)]


class PowersTest(unittest.TestCase):
    def hold(self, found, worth, *handed):
        """The sum is one, and worth at some numbers what is due there."""
        self.assertTrue(is_sum(found), (found, handed))
        for number in NUMBERS:
            self.assertEqual(worth_at(found, number), worth(number), handed)


class TidyTest(PowersTest):
    def test_of_instance(self):
        self.assertEqual(tidy([]), [])
        self.assertEqual(tidy([(3, 2), (-1, 5), (0, -4)]), [(-1, 5), (0, -4), (3, 2)])
        self.assertEqual(tidy([(3, 2), (3, 2), (3, 1)]), [(3, 5)])
        self.assertEqual(tidy([(3, 2), (1, 1), (3, -2)]), [(1, 1)])
        self.assertEqual(tidy([(3, 0)]), [])
        self.assertEqual(tidy([(0, 0), (1, 1), (-1, 0)]), [(1, 1)])
        self.assertEqual(tidy([(2, 1), (2, -1)]), [])
        self.assertEqual(tidy([(2, 1), (2, -2), (2, 1), (0, 3)]), [(0, 3)])
        self.assertEqual(tidy([(10, 1), (9, 1), (-10, 1), (-9, 1)]), [(-10, 1), (-9, 1), (9, 1), (10, 1)])
        self.assertEqual(tidy([(-7, 999999999999), (-7, 1)]), [(-7, 1000000000000)])

    def test_any_tuples(self):
        chance = Random(1)
        for _ in range(200):
            tuples = any_tuples(chance)
            self.hold(tidy(tuples), lambda number: worth_at(tuples, number), tuples)
            self.assertEqual(tidy(tuples[::-1]), tidy(tuples))

    def test_a_sum_stays(self):
        for one in some_sums():
            self.assertEqual(tidy(one), one)


class AddedAndMultipliedTest(PowersTest):
    def test_of_instance(self):
        self.assertEqual(plus([(0, 1), (2, 3)], [(-1, 4), (2, -3)]), [(-1, 4), (0, 1)])
        self.assertEqual(minus([(0, 1), (2, 3)], [(-1, 4), (2, 3)]), [(-1, -4), (0, 1)])
        self.assertEqual(times([(-1, 2), (1, 3)], [(0, 5), (2, -1)]), [(-1, 10), (1, 13), (3, -3)])
        self.assertEqual(times([(0, 1), (1, 1)], [(0, 1), (1, -1)]), [(0, 1), (2, -1)])

    def test_nothing_on_either_side(self):
        for one in some_sums():
            self.assertEqual(plus(one, []), one)
            self.assertEqual(plus([], one), one)
            self.assertEqual(minus(one, []), one)
            self.assertEqual(minus([], one), [(power, -many) for power, many in one])
            self.assertEqual(minus(one, one), [])
            self.assertEqual(times(one, []), [])
            self.assertEqual(times([], one), [])
            self.assertEqual(times(one, ONE), one)
            self.assertEqual(times(ONE, one), one)

    def test_worth_at_numbers(self):
        for one in some_sums():
            for other in some_sums():
                self.hold(plus(one, other), lambda number: worth_at(one, number) + worth_at(other, number), one, other)
                self.hold(minus(one, other), lambda number: worth_at(one, number) - worth_at(other, number), one, other)
                product = times(one, other)
                self.hold(product, lambda number: worth_at(one, number) * worth_at(other, number), one, other)

    def test_told_sums_with_many_tuples_are_handed_in_again(self):
        long = times(some_sums()[-1], times(some_sums()[-2], some_sums()[-3]))
        self.assertGreater(len(long), 60)
        self.assertEqual(minus(plus(long, long), long), long)
        longer = times(long, long)
        self.assertEqual(parted(longer, long), long)
        self.assertEqual(at_one(longer), at_one(long) ** 2)
        self.assertEqual(tidy(longer), longer)

    def test_at_one(self):
        self.assertEqual(at_one([]), 0)
        self.assertEqual(at_one([(-3, 5), (0, -1), (60, 2)]), 6)
        self.assertEqual(at_one([(-3, 5), (7, -5)]), 0)
        for one in some_sums():
            self.assertEqual(at_one(one), worth_at(one, 1))
            self.assertIs(type(at_one(one)), int)


class PartedTest(PowersTest):
    def refused(self, one, other):
        with self.assertRaises(RookError, msg=(one, other)) as taken:
            parted(one, other)
        self.assertIs(type(taken.exception), NoPart)

    def test_of_instance(self):
        self.assertEqual(parted([(0, 1), (2, -1)], [(0, 1), (1, 1)]), [(0, 1), (1, -1)])
        self.assertEqual(parted([(-2, 1), (0, -2), (2, 1)], [(-1, -1), (1, 1)]), [(-1, -1), (1, 1)])
        self.assertEqual(parted([(3, 6)], [(5, -2)]), [(-2, -3)])
        self.assertEqual(parted([(-4, 6), (1, 9)], [(-60, 3)]), [(56, 2), (61, 3)])

    def test_where_it_goes_up(self):
        for one in some_sums():
            for other in some_sums():
                if other:
                    found = parted(times(one, other), other)
                    self.assertEqual(found, one)
                    self.assertTrue(is_sum(found))

    def test_nothing_parted(self):
        for other in some_sums():
            if other:
                self.assertEqual(parted([], other), [])

    def test_by_itself_and_by_one(self):
        for one in some_sums():
            self.assertEqual(parted(one, ONE), one)
            if one:
                self.assertEqual(parted(one, one), ONE)

    def test_powers_far_apart(self):
        self.assertEqual(parted([(-60, -1), (60, 1)], [(0, -1), (1, 1)]), [(power, 1) for power in range(-60, 60)])
        self.assertEqual(parted([(-60, 1), (60, 1)], [(-40, 1), (40, 1)][:1]), [(-20, 1), (100, 1)])
        self.assertEqual(parted([(-60, -1), (60, 1)], [(-60, -1), (0, 1)]), [(0, 1), (60, 1)])
        self.refused([(-60, 1), (60, 1)], [(0, -1), (1, 1)])
        self.refused([(-60, -1), (60, 1)], [(-60, 1), (59, 1)])

    def test_where_it_does_not_go_up(self):
        self.refused(ONE, [(0, 2)])
        self.refused([(0, 3), (1, 4)], [(5, 2)])
        self.refused([(0, 4), (1, 3)], [(5, 2)])
        self.refused(ONE, [(0, 1), (1, 1)])
        self.refused([(60, 5)], [(-60, 1), (60, 1)])
        self.refused([(0, 1), (1, 1)], [(0, 1), (2, 1)])
        self.refused([(0, 1), (1, 1)], [(0, 2), (1, 2)])
        self.refused([(0, 1), (1, 1), (2, 1)], [(0, 1), (1, 1)])
        self.refused([(0, 1), (1, 3), (2, 2)], [(0, 2), (1, 2)])
        self.refused([(-2, 1), (0, 1)], SHARE)
        # Parted from above it would go on with halves, from beneath with wholes alone, and the other way about.
        self.refused([(0, 1), (1, 3)], [(0, 1), (1, 2)])
        self.refused([(0, 3), (1, 1)], [(0, 2), (1, 1)])

    def test_one_off(self):
        for one in some_sums():
            for other in some_sums():
                if len(other) > 1:
                    product = times(one, other)
                    self.refused(plus(product, [(7, 1)]), other)
                    self.refused(plus(product, [(-60, -1)]), other)

    def test_all_small_ones(self):
        numbers = [(a, b, c) for a in (-1, 0, 1, 2) for b in (-1, 0, 1, 2) for c in (-1, 0, 2)]
        sums = [tidy(list(enumerate(row))) for row in numbers]
        for other in sums:
            if not other:
                continue
            products = {tuple(times(one, other)): one for one in sums}
            for one in sums:
                try:
                    self.assertEqual(times(parted(one, other), other), one)
                except NoPart:
                    self.assertNotIn(tuple(one), products)


class DeterminantTest(PowersTest):
    def test_of_instance(self):
        self.assertEqual(determinant([]), ONE)
        self.assertEqual(determinant([[[]]]), [])
        self.assertEqual(determinant([[[(-3, 2), (1, 1)]]]), [(-3, 2), (1, 1)])
        two = [[[(0, 1)], [(1, 2)]], [[(2, 3)], [(3, 4), (4, 1)]]]
        self.assertEqual(determinant(two), [(3, -2), (4, 1)])
        self.assertEqual(determinant([[[], [(0, 1)]], [[(0, 1)], []]]), [(0, -1)])
        ones = [[[(column, 1)] if (row + 1) % 3 == column else [] for column in range(3)] for row in range(3)]
        self.assertEqual(determinant(ones), [(3, 1)])

    def test_as_by_all_orders(self):
        chance = Random(3)
        for size in (1, 2, 2, 3, 3, 4, 4, 5):
            for many in (1, 2, 4):
                table = some_table(chance, size, many)
                self.assertTrue(is_sum(determinant(table)))
                self.assertEqual(determinant(table), by_all_orders(table))

    def test_as_by_clearing_columns(self):
        chance = Random(4)
        for size in (4, 5, 6, 7, 8):
            table = some_table(chance, size)
            found = determinant(table)
            self.assertTrue(is_sum(found))
            self.assertEqual(worth_at(found, FAR), determinant_at(table, FAR))

    def test_of_ten_comes_home(self):
        chance = Random(6)
        start = time.monotonic()
        full = [[[(k, chance.choice((-9, 9))) for k in (-6, -2, 1, 6)] for _ in range(10)] for _ in range(10)]
        for table in (full, some_table(chance, 10), some_table(chance, 10, 1), some_table(chance, 9)):
            found = determinant(table)
            self.assertTrue(is_sum(found))
            self.assertEqual(worth_at(found, FAR), determinant_at(table, FAR))
        self.assertLess(time.monotonic() - start, 60)

    def test_equal_rows_and_rows_of_nothing(self):
        chance = Random(7)
        for size in (2, 3, 5, 8, 10):
            table = some_table(chance, size)
            equal = [list(row) for row in table]
            equal[-1] = list(equal[0])
            self.assertEqual(determinant(equal), [])
            self.assertEqual(determinant([[row[0]] * 2 + row[2:] for row in table]), [])
            nothing = [list(row) for row in table]
            nothing[size // 2] = [[] for _ in range(size)]
            self.assertEqual(determinant(nothing), [])
            self.assertEqual(determinant([[[]] + row[1:] for row in table]), [])

    def test_rows_exchanged_and_turned_about(self):
        chance = Random(8)
        for size in (2, 3, 6):
            table = some_table(chance, size)
            found = determinant(table)
            turned = [[table[row][column] for row in range(size)] for column in range(size)]
            self.assertEqual(determinant(turned), found)
            self.assertEqual(determinant([table[1], table[0]] + table[2:]), minus([], found))

    def test_of_a_stair(self):
        for size in range(11):
            stair = [[[(row, 2)] if row == column else [(3, 1)] if row < column else [] for column in range(size)]
                     for row in range(size)]
            self.assertEqual(determinant(stair), [(size * (size - 1) // 2, 2 ** size)])


class OwnTest(unittest.TestCase):
    def test_handed_lists_stay_and_told_ones_are_new(self):
        deeds = [(deed, [one, other]) for deed in (plus, minus, times) for one in some_sums() for other in some_sums()]
        deeds += [(tidy, [one]) for one in some_sums()]
        deeds += [(parted, [one, ONE]) for one in some_sums()] + [(parted, [[], one]) for one in some_sums() if one]
        chance = Random(9)
        deeds += [(determinant, [some_table(chance, size)]) for size in (0, 1, 2, 3)] + [(determinant, [[[ONE]]])]
        for deed, shared in deeds:
            handed, kept = copy.deepcopy(shared), copy.deepcopy(shared)
            found = deed(*handed)
            due = list(found)
            self.assertFalse(any(found is one for one in handed))
            found.append((99, 99))
            found.reverse()
            self.assertEqual(handed, kept)
            again = deed(*handed)
            self.assertEqual(again, due)
            for one in handed:
                one.clear()
            self.assertEqual(again, due)

    def test_the_sum_of_a_table_of_one_is_a_new_one(self):
        entry = [(2, 3)]
        determinant([[entry]]).append((5, 5))
        self.assertEqual(entry, [(2, 3)])


if __name__ == "__main__":
    unittest.main()
