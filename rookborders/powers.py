"""Sums of powers: lists of tuples (power, many), powers rising, many never 0."""

from rookborders.errors import NoPart


def tidy(tuples):
    """Tell the sum of any tuples (power, many)."""
    found = {}
    for power, many in tuples:
        found[power] = found.get(power, 0) + many
    return [(power, found[power]) for power in sorted(found) if found[power] != 0]


def plus(one, other):
    """Tell the sum of two sums."""
    return tidy(one + other)


def minus(one, other):
    """Tell one sum with another one taken off."""
    return tidy(one + [(power, -many) for power, many in other])


def times(one, other):
    """Tell the product of two sums."""
    return tidy([(power + raised, many * often) for power, many in one for raised, often in other])


def parted(one, other):
    """Tell the sum that times the other one, which isn't empty, is the one; refuse it with NoPart."""
    power, many = other[-1]
    left = one
    found = []
    while left:
        top, often = left[-1]
        # A part goes no lower than this; what would go lower would go on without an end.
        if top - power < one[0][0] - other[0][0] or often % many != 0:
            raise NoPart("no sum times the other one is the one")
        piece = [(top - power, often // many)]
        found = piece + found
        left = minus(left, times(piece, other))
    return found


def at_one(one):
    """Tell the worth of a sum at one."""
    return sum([many for power, many in one])


def put_product(into, one, other, sign):
    """Add the product of a sum and a dict of powers, with a sign, to another dict of powers."""
    for power, many in one:
        for raised in other:
            into[power + raised] = into.get(power + raised, 0) + sign * many * other[raised]


def sign_past(columns, column):
    """Tell the sign of bringing a column past those chosen ones that lie further right."""
    further = [chosen for chosen in columns if chosen > column]
    return -1 if len(further) % 2 == 1 else 1


def minors_further(minors, row):
    """Tell the minors of one row more: of each choice of columns a dict of powers."""
    found = {}
    for columns in minors:
        for column, entry in enumerate(row):
            if entry and column not in columns:
                more = tuple(sorted(columns + (column,)))
                into = found.setdefault(more, {})
                put_product(into, entry, minors[columns], sign_past(columns, column))
    return found


def determinant(table):
    """Tell the determinant of a table of sums."""
    # By choices of columns, which are far fewer than their orders.
    minors = {(): {0: 1}}
    for row in table:
        minors = minors_further(minors, row)
    whole = minors.get(tuple(range(len(table))), {})
    return tidy(list(whole.items()))
