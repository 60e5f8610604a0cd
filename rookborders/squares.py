"""Squares, judged and vetted, and the lines on them."""

from rookborders.errors import NoSquare, NotOne
from rookborders.orders import is_order, order_rounds

LEAST_SIZE = 2
MOST_SIZE = 6


def is_square(thing):
    """Tell whether any thing is a square."""
    if not isinstance(thing, tuple) or len(thing) != 2:
        return False
    rings, crosses = thing
    # Asked ahead of its length: a whole number has none.
    if not isinstance(rings, tuple) or not LEAST_SIZE <= len(rings) <= MOST_SIZE:
        return False
    if not is_order(len(rings), rings) or not is_order(len(rings), crosses):
        return False
    return all([ring != cross for ring, cross in zip(rings, crosses)])


def vet(thing):
    """Tell True of a square; refuse any other thing with NoSquare."""
    if not is_square(thing):
        raise NoSquare("this is no square")
    return True


def lines_of(square):
    """Tell the lines as lists of columns, each from its least column on, sorted."""
    rings, crosses = square
    return order_rounds([crosses.index(ring) for ring in rings])


def vet_one_line(square):
    """Tell True of a square with one line; refuse any other one with NotOne."""
    if len(lines_of(square)) != 1:
        raise NotOne("the square has more lines than one")
    return True
