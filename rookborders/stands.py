"""Stands: rooks that spare one another on the bars of a square, their grades and leans."""

from rookborders.orders import is_order, order_raised, order_tipped, order_turned
from rookborders.squares import lines_of


def all_stands(n):
    """Tell all stands of n, sorted."""
    stands = [()]
    for bar in range(n):
        # Heights rise behind each beginning, so the stands stay sorted.
        stands = [stand + (height,) for stand in stands for height in range(n) if height not in stand]
    return stands


def is_stand(n, thing):
    """Tell whether any thing is a stand of n."""
    return is_order(n, thing)


def points_of(order, half):
    """Tell the points of rooks (half 0) or of marks (half 1), all numbers doubled to keep them whole."""
    return [(2 * place + half, 2 * number + half) for place, number in enumerate(order)]


def pairs(ones, others):
    """Tell how many pairs there are of one point and another one to the right of it and above it."""
    return len([True for right, up in ones for x, y in others if right < x and up < y])


def grade_by(marks, stand):
    """Tell the grade of a stand by the marks of one sort."""
    rooks = points_of(stand, 0)
    points = points_of(marks, 1)
    return pairs(rooks, rooks) - pairs(rooks, points) - pairs(points, rooks) + pairs(points, points) + 1


def grade(square, stand):
    """Tell the grade of a stand: that by the rings."""
    return grade_by(square[0], stand)


def lean(square, stand):
    """Tell the lean of a stand."""
    rings, crosses = square
    unlike = grade_by(rings, stand) - grade_by(crosses, stand)
    return unlike - len(rings) + len(lines_of(square))


def home_of(square, stand):
    """Tell the home (grade, lean) of a stand."""
    return (grade(square, stand), lean(square, stand))


def stand_turned(stand, k):
    """Tell what becomes of a stand where the square's columns are turned by k."""
    return order_turned(stand, k)


def stand_raised(stand, k):
    """Tell what becomes of a stand where the square's rows are turned by k."""
    return order_raised(stand, k)


def stand_tipped(stand):
    """Tell what becomes of a stand where the square is tipped."""
    return order_tipped(stand)
