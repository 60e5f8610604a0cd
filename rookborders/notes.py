"""Texts: squares written and read, sums and tables written."""

from rookborders.errors import NoText
from rookborders.orders import order_tipped
from rookborders.squares import is_square


def sign_shown(square, column, row):
    """Tell how a cell is written."""
    rings, crosses = square
    if rings[column] == row:
        return "o"
    return "x" if crosses[column] == row else "."


def square_shown(square):
    """Tell the text that writes a square: its rows from above, with / between."""
    columns = list(range(len(square[0])))
    # The rows are numbered upwards as the columns are to the right, and there are as many.
    rows = ["".join([sign_shown(square, column, row) for column in columns]) for row in reversed(columns)]
    return "/".join(rows)


def is_row(size, row):
    """Tell whether a text writes a row of this many cells, with one ring and one cross."""
    return len(row) == size and row.count("o") == 1 and row.count("x") == 1 and row.count(".") == size - 2


def columns_with(sign, rows):
    """Tell the columns in which a sign stands in the rows, from the lowest row on."""
    return tuple([row.index(sign) for row in rows])


def square_read(thing):
    """Tell the square that a text writes; refuse any other thing with NoText."""
    if not isinstance(thing, str):
        raise NoText("this is no text")
    rows = thing.split("/")
    rows.reverse()
    if not all([is_row(len(rows), row) for row in rows]):
        raise NoText("these are no rows of a square")
    # Told by rows, a square is one tipped.
    by_rows = (columns_with("o", rows), columns_with("x", rows))
    if not is_square(by_rows):
        raise NoText("this writes no square")
    return (order_tipped(by_rows[0]), order_tipped(by_rows[1]))


def sum_shown(one):
    """Tell the text that writes a sum of powers."""
    return " ".join([f"{many}@{power}" for power, many in one]) if one else "0"


def table_shown(found):
    """Tell the text that writes a table or a rest."""
    return " ".join([f"{grade},{lean},{many}" for grade, lean, many in found]) if found else "none"
