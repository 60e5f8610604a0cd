"""Crowds of stands, their borders, and the ways by two steps that go in pairs."""

from rookborders.oblongs import behind, cells_of, steps_from


def added(one, other):
    """Tell the crowd of the stands that are in just one of two crowds."""
    return sorted(set(one) ^ set(other))


def oddly_often(stands):
    """Tell the crowd of the stands that a list bears oddly often."""
    odd = set()
    for stand in stands:
        if stand in odd:
            odd.discard(stand)
        else:
            odd.add(stand)
    return sorted(odd)


def oddly_many(one, other):
    """Tell whether two crowds have oddly many stands in common."""
    return len(set(one) & set(other)) % 2 == 1


def border(square, crowd):
    """Tell the crowd of the stands to which oddly many steps lead from the stands of a crowd."""
    return oddly_often([end for stand in crowd for a, b, end in steps_from(square, stand)])


def two_steps(square, stand):
    """Tell the ways by two steps (a, b, c, d) from a stand, sorted."""
    # The steps are told sorted, and no two of one stand bear the same bars, so the ways come sorted.
    return [
        (a, b, c, d)
        for a, b, between in steps_from(square, stand)
        for c, d, end in steps_from(square, between)
    ]


def patch_and_end(stand, way):
    """Tell the cells of both oblongs of a way, sorted, and the stand behind the second one."""
    a, b, c, d = way
    between = behind(stand, a, b)
    patch = sorted(cells_of(stand, a, b) + cells_of(between, c, d))
    return (patch, behind(between, c, d))


def partner(square, stand, way):
    """Tell the other way by two steps that has the same patch and the same end as a way."""
    sought = patch_and_end(stand, way)
    partners = [
        other
        for other in two_steps(square, stand)
        if other != way and patch_and_end(stand, other) == sought
    ]
    # There is just one: the patch can be cut into two steps in two ways.
    return partners[0]
