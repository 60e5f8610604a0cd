"""Squares, judged and vetted, and the lines on them."""

from rookborders.errors import NoSquare
from rookborders.orders import is_order

LEAST_SIZE = 2
MOST_SIZE = 6


def is_square(thing):
    """Tell whether any thing is a square."""
    if not isinstance(thing, tuple) or len(thing) != 2:
        return False
    rings, crosses = thing
    # Asked ahead of its length: a whole number has none.
    if not isinstance(rings, tuple) or not LEAST_SIZE <= len(rings) <= MOST_SIZE:
        return False
    if not is_order(len(rings), rings) or not is_order(len(rings), crosses):
        return False
    return all([ring != cross for ring, cross in zip(rings, crosses)])


def vet(thing):
    """Tell True of a square; refuse any other thing with NoSquare."""
    if not is_square(thing):
        raise NoSquare("this is no square")
    return True


def line_from(square, start):
    """Tell the columns of the line through the start column, from there on in the order gone."""
    rings, crosses = square
    line = [start]
    column = crosses.index(rings[start])
    while column != start:
        line.append(column)
        column = crosses.index(rings[column])
    return line


def lines_of(square):
    """Tell the lines as lists of columns, each from its least column on, sorted."""
    lines = []
    for start in range(len(square[0])):
        line = line_from(square, start)
        # A line comes up once from each of its columns; that from its least one is kept.
        if min(line) == start:
            lines.append(line)
    return lines
