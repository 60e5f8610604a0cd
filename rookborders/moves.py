"""Moves: they change a square and keep its lines."""

from rookborders.crossings import lies_between
from rookborders.errors import NoMove, TooMany
from rookborders.orders import order_exchanged, order_raised, order_tipped, order_turned
from rookborders.squares import MOST_SIZE

MANY_WAYS = 4
# How many whole numbers stand behind the text of each kind of move.
MANY_NUMBERS = {"columns": 1, "rows": 1, "tip": 0, "swap": 1, "cross": 1, "put": 2, "take": 2}


def columns_turned(square, k):
    """Tell the square with what was in column c in column c + k, round."""
    rings, crosses = square
    return (order_turned(rings, k), order_turned(crosses, k))


def rows_turned(square, k):
    """Tell the square with what was in row r in row r + k, round."""
    rings, crosses = square
    return (order_raised(rings, k), order_raised(crosses, k))


def tipped(square):
    """Tell the square with columns and rows exchanged."""
    rings, crosses = square
    return (order_tipped(rings), order_tipped(crosses))


def may_change(square, c):
    """Tell whether columns c and c + 1 may be exchanged."""
    rings, crosses = square
    if not 0 <= c <= len(rings) - 2:
        return False
    one = (rings[c], crosses[c])
    other = (rings[c + 1], crosses[c + 1])
    if one[0] in other or one[1] in other:
        return False
    between = [row for row in other if lies_between(row, one[0], one[1])]
    return len(between) != 1


def columns_changed(square, c):
    """Tell the square with columns c and c + 1 exchanged, or refuse it with NoMove."""
    if not may_change(square, c):
        raise NoMove("these columns may not be exchanged")
    rings, crosses = square
    return (order_exchanged(rings, c, c + 1), order_exchanged(crosses, c, c + 1))


def rows_changed(square, r):
    """Tell the square with rows r and r + 1 exchanged, or refuse it with NoMove."""
    return tipped(columns_changed(tipped(square), r))


def is_way(way):
    """Tell whether a whole number is a way of putting a corner in."""
    return 0 <= way < MANY_WAYS


def free_and_full(c, r, way):
    """Tell the free column and row, in which the way's empty cell is, and the full ones, in which it is not."""
    right, up = way % 2, way // 2
    return (c + right, r + up, c + 1 - right, r + 1 - up)


def row_parted(mark, row, to):
    """Tell where a mark's row comes to, where one row is parted into two and its mark comes to one of these."""
    if mark == row:
        return to
    return mark + 1 if mark > row else mark


def corner_put(square, c, way):
    """Tell the square with a corner put in at column c, or refuse it with NoMove or TooMany."""
    rings, crosses = square
    if not 0 <= c < len(rings) or not is_way(way):
        raise NoMove("there is no such column or way")
    if len(rings) >= MOST_SIZE:
        raise TooMany("the square has no room for a corner")
    row = crosses[c]
    free_column, free_row, full_column, full_row = free_and_full(c, row, way)
    more_rings = [row_parted(mark, row, free_row) for mark in rings]
    more_crosses = [row_parted(mark, row, full_row) for mark in crosses]
    # The full column comes in beside the old one, which so becomes the free one.
    more_rings.insert(full_column, full_row)
    more_crosses.insert(full_column, free_row)
    return (tuple(more_rings), tuple(more_crosses))


def is_put(square, c, r, way):
    """Tell whether the cells of columns c, c + 1 and rows r, r + 1 are as put in by the way."""
    rings, crosses = square
    free_column, free_row, full_column, full_row = free_and_full(c, r, way)
    if (rings[full_column], crosses[full_column]) != (full_row, free_row):
        return False
    return crosses[free_column] == full_row and rings[free_column] != free_row


def way_put(square, c, r):
    """Tell the way by which the corner at columns c, c + 1 and rows r, r + 1 is put in, None where there is none."""
    last = len(square[0]) - 2
    if not 0 <= c <= last or not 0 <= r <= last:
        return None
    for way in range(MANY_WAYS):
        if is_put(square, c, r, way):
            return way
    return None


def rows_joined(marks, row, column):
    """Tell the rows of marks, by columns, without one column, where a row and that above it are joined."""
    return tuple([mark - 1 if mark > row else mark for at, mark in enumerate(marks) if at != column])


def corner_taken(square, c, r):
    """Tell the square ahead of the corner at columns c, c + 1 and rows r, r + 1, or refuse it with NoMove."""
    way = way_put(square, c, r)
    if way is None:
        raise NoMove("there is no corner to be taken out")
    rings, crosses = square
    full_column = free_and_full(c, r, way)[2]
    return (rows_joined(rings, r, full_column), rows_joined(crosses, r, full_column))


def is_move(words):
    """Tell whether a tuple of a text and whole numbers behind it is a move."""
    return MANY_NUMBERS.get(words[0]) == len(words) - 1


def moved(square, move):
    """Tell the square behind a move, or refuse it as the move's own function does."""
    kind = move[0]
    if kind == "columns":
        return columns_turned(square, move[1])
    if kind == "rows":
        return rows_turned(square, move[1])
    if kind == "tip":
        return tipped(square)
    if kind == "swap":
        return columns_changed(square, move[1])
    if kind == "cross":
        return rows_changed(square, move[1])
    if kind == "put":
        return corner_put(square, move[1], move[2])
    return corner_taken(square, move[1], move[2])


def move_back(square, move):
    """Tell the move by which the square comes again behind a move that isn't refused."""
    kind = move[0]
    if kind in ("columns", "rows"):
        return (kind, -move[1])
    if kind == "put":
        crosses = square[1]
        return ("take", move[1], crosses[move[1]])
    if kind == "take":
        return ("put", move[1], way_put(square, move[1], move[2]))
    return move
