"""Oblongs between two rooks of a stand, and the steps that they make."""

from rookborders.orders import order_exchanged


def places_from(size, start, end):
    """Tell the places from a start on, round, up to the last one ahead of an end."""
    return [(start + further) % size for further in range((end - start) % size)]


def columns_of(stand, a, b):
    """Tell the columns of the oblong (a, b), from its left one on."""
    return places_from(len(stand), a, b)


def rows_of(stand, a, b):
    """Tell the rows of the oblong (a, b), from its lowest one on."""
    return places_from(len(stand), stand[a], stand[b])


def cells_of(stand, a, b):
    """Tell the cells (column, row) of the oblong (a, b), sorted."""
    rows = rows_of(stand, a, b)
    return sorted([(column, row) for column in columns_of(stand, a, b) for row in rows])


def behind(stand, a, b):
    """Tell the stand to which the oblong (a, b) leads."""
    return order_exchanged(stand, a, b)


def is_bare(stand, a, b):
    """Tell whether no rook of the stand lies within the oblong (a, b)."""
    # A bar and a height bear the number of the column and the row beside them; the first ones lie on the edge.
    bars = columns_of(stand, a, b)[1:]
    heights = rows_of(stand, a, b)[1:]
    return not any([stand[bar] in heights for bar in bars])


def is_clear(square, stand, a, b):
    """Tell whether no cell of the oblong (a, b) bears a mark of the square."""
    rings, crosses = square
    marked = [row in (rings[column], crosses[column]) for column, row in cells_of(stand, a, b)]
    return not any(marked)


def is_step(square, stand, a, b):
    """Tell whether the oblong (a, b) is a step of the square."""
    return is_bare(stand, a, b) and is_clear(square, stand, a, b)


def steps_from(square, stand):
    """Tell the steps (a, b, behind) of the square from a stand, sorted."""
    bars = list(range(len(stand)))
    return [
        (a, b, behind(stand, a, b))
        for a in bars
        for b in bars
        if a != b and is_step(square, stand, a, b)
    ]
