"""Moves, grades, steps and sums reckoned a second time, cell by cell and point by point, to hold the program against."""

from collections import Counter
from fractions import Fraction

from walker import Walked, all_squares, squares_of

HALF = Fraction(1, 2)
# Of each way: the empty cell, that of the ring, those of the crosses, as (right, up) of the four cells.
CORNERS = {
    0: ((0, 0), (1, 1), ((1, 0), (0, 1))),
    1: ((1, 0), (0, 1), ((0, 0), (1, 1))),
    2: ((0, 1), (1, 0), ((0, 0), (1, 1))),
    3: ((1, 1), (0, 0), ((1, 0), (0, 1))),
}
PLAIN = ((0, 1), (1, 0))
THREEFOIL = ((0, 1, 2, 3, 4), (2, 3, 4, 0, 1))
TIED = ((0, 1, 2, 3), (2, 3, 0, 1))
EIGHT = ((0, 2, 1, 4, 3, 5), (4, 5, 3, 2, 0, 1))
THREE_LINES = ((0, 1, 2, 3, 4, 5), (3, 4, 5, 0, 1, 2))
# The one that the document tells of.
TOLD = ((1, 0, 2, 3), (0, 1, 3, 2))


def some_squares():
    """Squares of each size: all of two and three, some of four and five, few of six."""
    return (
        all_squares(2) + all_squares(3) + all_squares(4)[::9] + [TIED, TOLD]
        + all_squares(5)[::440] + [THREEFOIL] + few_of_six()
    )


def few_of_six():
    rows = [(2, 0, 5, 1, 4, 3), (5, 3, 4, 0, 2, 1)]
    return squares_of(rows, [(0, 1, 2, 3, 4, 5), (3, 5, 1, 4, 0, 2)]) + [EIGHT, THREE_LINES]


def marks_of(square):
    """The cells of the rings and those of the crosses."""
    return set(enumerate(square[0])), set(enumerate(square[1]))


def square_of(rings, crosses):
    """The square of such cells; each column is to have one of both."""
    rows = []
    for cells in (rings, crosses):
        columns = [column for column, row in sorted(cells)]
        assert columns == list(range(len(cells))), cells
        rows.append(tuple(row for column, row in sorted(cells)))
    return tuple(rows)


def carried(square, carry):
    """The square with each mark's cell carried to another one."""
    rings, crosses = marks_of(square)
    return square_of({carry(cell) for cell in rings}, {carry(cell) for cell in crosses})


def gone_round(place, k, size):
    """A place gone k further, one by one."""
    for _ in range(abs(k)):
        place += 1 if k > 0 else -1
        place = {size: 0, -1: size - 1}.get(place, place)
    return place


def exchange_looked(square, c):
    """The square with columns c and c + 1 exchanged, None where they may not be."""
    if c not in range(len(square[0]) - 1):
        return None
    rows = sorted((square[side][column], column) for side in (0, 1) for column in (c, c + 1))
    order = [column - c for row, column in rows]
    if len({row for row, column in rows}) < 4 or order in ([0, 1, 0, 1], [1, 0, 1, 0]):
        return None
    places = {c: c + 1, c + 1: c}
    return carried(square, lambda cell: (places.get(cell[0], cell[0]), cell[1]))


def rows_exchange_looked(square, r):
    def tip(cell):
        return (cell[1], cell[0])
    looked = exchange_looked(carried(square, tip), r)
    return None if looked is None else carried(looked, tip)


def put_looked(square, c, way):
    """The square with a corner put in, cell by cell."""
    empty, ring, others = CORNERS[way]
    at = (c, square[1][c])
    def carry(cell):
        return tuple(
            place + (place > old) if place != old else place + beside
            for place, old, beside in zip(cell, at, empty)
        )
    rings, crosses = marks_of(square)
    new_rings = {carry(cell) for cell in rings} | {(at[0] + ring[0], at[1] + ring[1])}
    new_crosses = {carry(cell) for cell in crosses - {at}} | {(at[0] + x, at[1] + y) for x, y in others}
    return square_of(new_rings, new_crosses)


def moves_within(size):
    """Moves of every kind on a square of some size, those that may be refused too."""
    numbers = list(range(-2, size + 2)) + [10 ** 10, -10 ** 10]
    moves = [(kind, k) for kind in ("columns", "rows", "swap", "cross") for k in numbers]
    moves += [("put", c, way) for c in numbers for way in (-1, 0, 1, 2, 3, 4)]
    moves += [("take", c, r) for c in numbers for r in numbers]
    return moves + [("tip",)]


def pairs_looked(ones, others):
    return sum(1 for one in ones for other in others if other[0] > one[0] and other[1] > one[1])


def grade_looked(marks, stand):
    rooks = [(Fraction(bar), Fraction(height)) for bar, height in enumerate(stand)]
    points = [(column + HALF, row + HALF) for column, row in enumerate(marks)]
    own = pairs_looked(rooks, rooks) + pairs_looked(points, points)
    return own - pairs_looked(rooks, points) - pairs_looked(points, rooks) + 1


def lean_looked(square, stand):
    unlike = grade_looked(square[0], stand) - grade_looked(square[1], stand)
    return unlike - len(stand) + len(Walked(square).lines)


def home_looked(square, stand):
    return grade_looked(square[0], stand), lean_looked(square, stand)


def gone(start, end, size):
    """The places from a start up to the one ahead of an end, gone one by one."""
    places = []
    while start != end:
        places.append(start)
        start = start + 1 if start + 1 < size else 0
    return places


def cells_looked(stand, a, b):
    size = len(stand)
    columns, rows = gone(a, b, size), gone(stand[a], stand[b], size)
    return [(column, row) for column in range(size) for row in range(size) if column in columns and row in rows]


def behind_looked(stand, a, b):
    return tuple(stand[{a: b, b: a}.get(bar, bar)] for bar in range(len(stand)))


def rooks_within(stand, a, b):
    """The rooks that lie within the oblong: each corner cell of theirs to all four sides is one of it."""
    size, cells = len(stand), cells_looked(stand, a, b)
    return [
        (bar, height)
        for bar, height in enumerate(stand)
        if bar not in (a, b)
        and {(bar, height), ((bar or size) - 1, height), (bar, (height or size) - 1),
             ((bar or size) - 1, (height or size) - 1)} <= set(cells)
    ]


def marks_within(square, stand, a, b):
    rings, crosses = marks_of(square)
    cells = set(cells_looked(stand, a, b))
    return len(cells & rings), len(cells & crosses)


def oblongs_of(size):
    return [(a, b) for a in range(size) for b in range(size) if a != b]


def steps_looked(square, stand):
    return sorted(
        (a, b, behind_looked(stand, a, b))
        for a, b in oblongs_of(len(stand))
        if not rooks_within(stand, a, b) and marks_within(square, stand, a, b) == (0, 0)
    )


def odd_ones(ends):
    return sorted(end for end, many in Counter(ends).items() if many % 2)


def border_looked(square, crowd):
    return odd_ones([end for stand in crowd for a, b, end in steps_looked(square, stand)])


def ways_looked(square, stand):
    """Of each way by two steps its patch and its end."""
    found = {}
    for a, b, between in steps_looked(square, stand):
        for c, d, end in steps_looked(square, between):
            found[a, b, c, d] = (sorted(cells_looked(stand, a, b) + cells_looked(between, c, d)), end)
    return found


def turn_looked(square, c):
    """The row of a mark of column c from which, going up and round, one of column c + 1 comes first."""
    own, others = ({square[0][column], square[1][column]} for column in (c, c + 1))
    found = []
    for row in own:
        at = gone_round(row, 1, len(square[0]))
        while at not in own | others:
            at = gone_round(at, 1, len(square[0]))
        if at in others:
            found.append(row)
    assert len(found) == 1, (square, c)
    return found[0]


def bent_marks(square, c, stand, a, b, turns, first):
    """How many marks lie within the oblong that is bent at bar c + 1: in its column there those of the square that is
    first, above each turn those of the next of both."""
    both = [square, exchange_looked(square, c)]
    rows = gone(stand[a], stand[b], len(stand))
    bent = c + 1 if a == c + 1 else c
    marks = 0
    for column, row in cells_looked(stand, a, b):
        passed = sum(1 for turn in turns if rows.index(turn) < rows.index(row))
        side = (first + passed) % 2 if column == bent else 0
        marks += row in (both[side][0][column], both[side][1][column])
    return marks


def bent_looked(square, c, stand):
    """The stands to which bent steps lead, each as often as they do."""
    p, i = turn_looked(square, c), c + 1
    ends = []
    for a, b in oblongs_of(len(stand)):
        if i in (a, b) and p in gone(stand[a], stand[b], len(stand)) and not rooks_within(stand, a, b):
            if not bent_marks(square, c, stand, a, b, [p], 0 if a == i else 1):
                ends.append(behind_looked(stand, a, b))
    return ends


def twice_bent_looked(square, c, stand):
    """The stands to which twice bent steps lead, each as often as they do."""
    p, q, i = turn_looked(square, c), turn_looked(exchange_looked(square, c), c), c + 1
    ends = []
    for a, b in oblongs_of(len(stand)):
        rows = gone(stand[a], stand[b], len(stand))
        if i in (a, b) and p in rows and q in rows and not rooks_within(stand, a, b):
            in_order = (rows.index(p) < rows.index(q)) == (a == i)
            if in_order and not bent_marks(square, c, stand, a, b, [p, q], 0):
                ends.append(behind_looked(stand, a, b))
    return ends


def worth_at(one, x):
    """What a sum of powers is worth at a number that isn't 0."""
    return sum((many * Fraction(x) ** power for power, many in one), Fraction(0))


def determinant_at(table, x):
    """What the determinant of a table of sums is worth at a number, by clearing columns."""
    rows = [[worth_at(one, x) for one in row] for row in table]
    worth = Fraction(1)
    for at in range(len(rows)):
        pivot = next((k for k in range(at, len(rows)) if rows[k][at]), None)
        if pivot is None:
            return Fraction(0)
        if pivot != at:
            rows[at], rows[pivot], worth = rows[pivot], rows[at], -worth
        worth *= rows[at][at]
        for k in range(at + 1, len(rows)):
            share = rows[k][at] / rows[at][at]
            rows[k] = [low - share * high for low, high in zip(rows[k], rows[at])]
    return worth


def is_sum(thing):
    """Whether a thing is a list of tuples (power, many), powers rising, many never 0."""
    if type(thing) is not list or {type(pair) for pair in thing} - {tuple}:
        return False
    if {len(pair) for pair in thing} - {2} or {type(number) for pair in thing for number in pair} - {int}:
        return False
    powers = [power for power, many in thing]
    return powers == sorted(set(powers)) and all(many for power, many in thing)


def raised_alike(one, other):
    """Whether two sums are the same but for a sign and for powers raised alike."""
    if not one or not other:
        return one == other
    shift = other[0][0] - one[0][0]
    raised = [(power + shift, many) for power, many in one]
    return other in (raised, [(power, -many) for power, many in raised])
