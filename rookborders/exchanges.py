"""The maps that the exchange of two columns makes: crowds led to the other square, and tied in the one."""

from rookborders.borders import oddly_often
from rookborders.crossings import lies_between
from rookborders.moves import columns_changed
from rookborders.oblongs import behind, columns_of, is_bare, rows_of


def turn_of(square, c):
    """Tell the row of that mark of column c above which a mark of column c + 1 comes first, round."""
    rings, crosses = square
    low, high = sorted((rings[c], crosses[c]))
    # Both marks of column c + 1 lie between the two, or both beyond them.
    return low if lies_between(rings[c + 1], low, high) else high


def has_mark(square, column, row):
    """Tell whether a cell bears a mark of the square."""
    rings, crosses = square
    return row in (rings[column], crosses[column])


def columns_clear(square, columns, rows):
    """Tell whether these columns bear no mark of the square in these rows."""
    return not any([has_mark(square, column, row) for column in columns for row in rows])


def bend_clear(column, rows, bend):
    """Tell whether the bent column bears no mark: up to each turn of one side, above it of the next one."""
    sides, turns = bend
    at = 0
    for row in rows:
        if has_mark(sides[at], column, row):
            return False
        if row in turns:
            at += 1
    return True


def is_bent(square, stand, a, b, column, bend):
    """Tell whether the oblong (a, b) is a step that is bent at a column, by (sides, turns)."""
    sides, turns = bend
    rows = rows_of(stand, a, b)
    if [row for row in rows if row in turns] != turns or not is_bare(stand, a, b):
        return False
    straight = [other for other in columns_of(stand, a, b) if other != column]
    return columns_clear(square, straight, rows) and bend_clear(column, rows, bend)


def ends_from(square, c, stand, right, left):
    """Tell where steps lead that are bent by right from bar c + 1 on and by left up to it, as often as they do."""
    i = c + 1
    ends = []
    for j in range(len(stand)):
        if j != i and is_bent(square, stand, i, j, i, right):
            ends.append(behind(stand, i, j))
        if j != i and is_bent(square, stand, j, i, c, left):
            ends.append(behind(stand, j, i))
    return ends


def led(square, c, crowd):
    """Tell the crowd, in the other square, to which the exchange of columns c and c + 1 leads a crowd."""
    other = columns_changed(square, c)
    turns = [turn_of(square, c)]
    right, left = ([square, other], turns), ([other, square], turns)
    return oddly_often([end for stand in crowd for end in ends_from(square, c, stand, right, left)])


def tied(square, c, crowd):
    """Tell the crowd, in the same square, to which the exchange of columns c and c + 1 ties a crowd."""
    other = columns_changed(square, c)
    p, q = turn_of(square, c), turn_of(other, c)
    sides = [square, other, square]
    right, left = (sides, [p, q]), (sides, [q, p])
    return oddly_often([end for stand in crowd for end in ends_from(square, c, stand, right, left)])
