"""Lines walked cell by cell: a second reckoning, against which the program is held."""

from itertools import permutations


def squares_of(all_rings, all_crosses):
    return [
        (rings, crosses)
        for rings in all_rings
        for crosses in all_crosses
        if all(ring != cross for ring, cross in zip(rings, crosses))
    ]


def all_squares(size):
    rows = list(permutations(range(size)))
    return squares_of(rows, rows)


def squares_up_to(size):
    return [square for few in range(2, size + 1) for square in all_squares(few)]


def many_squares():
    """Every square of up to five columns, and some hundreds of six, where all would be too many."""
    rows = list(permutations(range(6)))
    return squares_up_to(5) + squares_of(rows[::19], rows[::23])


def cells_between(start, end):
    """The cells past the start up to the end, and the way gone, (right, up)."""
    right = (end[0] > start[0]) - (end[0] < start[0])
    up = (end[1] > start[1]) - (end[1] < start[1])
    cells = []
    at = start
    while at != end:
        at = (at[0] + right, at[1] + up)
        cells.append(at)
    return cells, (right, up)


def walk(square, start):
    """The passings (cell, way) of the line from the cross of the start column on, and its columns."""
    ring_cells = list(enumerate(square[0]))
    cross_cells = list(enumerate(square[1]))
    passings = []
    columns = []
    cross = cross_cells[start]
    while not columns or cross[0] != start:
        columns.append(cross[0])
        ring = next(cell for cell in ring_cells if cell[0] == cross[0])
        cells, way = cells_between(cross, ring)
        passings.extend((cell, way) for cell in cells[:-1])
        cross = next(cell for cell in cross_cells if cell[1] == ring[1])
        cells, way = cells_between(ring, cross)
        passings.extend((cell, way) for cell in cells[:-1])
    return passings, columns


class Walked:
    """All that points 5 and 6 tell of a square, by walking."""

    def __init__(self, square):
        self.lines = []
        ways = []
        left = set(range(len(square[0])))
        while left:
            passings, columns = walk(square, min(left))
            left -= set(columns)
            self.lines.append(columns)
            ways.append(passings)
        upright = {cell: (k, way) for k, line in enumerate(ways) for cell, way in line if way[1]}
        level = {cell: (k, way) for k, line in enumerate(ways) for cell, way in line if way[0]}
        cells = sorted(set(upright) & set(level))
        signs = {cell: -upright[cell][1][1] * level[cell][1][0] for cell in cells}
        self.crossings = [(column, row, signs[column, row]) for column, row in cells]
        self.words = [
            [(cells.index(cell), way[1] != 0) for cell, way in line if cell in signs]
            for line in ways
        ]
        many = len(self.lines)
        sums = {(k, l): 0 for k in range(many) for l in range(k, many)}
        for cell in cells:
            sums[tuple(sorted((upright[cell][0], level[cell][0])))] += signs[cell]
        self.twists = [sums[k, k] for k in range(many)]
        self.ties = [(k, l, sums[k, l] // 2) for k, l in sorted(sums) if k < l]
        self.odd_sums = [pair for pair in sums if pair[0] < pair[1] and sums[pair] % 2]
