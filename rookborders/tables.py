"""Squares taken apart into classes and borders, the table of the classes, and the rest of the table."""

from rookborders.borders import added, border, oddly_many
from rookborders.squares import lines_of
from rookborders.stands import all_stands, home_of


def cycles_and_leads(square):
    """Tell two dicts: of stands the cycles of which they are the greatest, of leads (crowd, its border)."""
    cycles = {}
    leads = {}
    for stand in all_stands(len(square[0])):
        crowd, edge = [stand], border(square, [stand])
        # What has the same lead is added, so the border's greatest stand falls until it is a new lead or none.
        while edge and edge[-1] in leads:
            other, other_edge = leads[edge[-1]]
            crowd, edge = added(crowd, other), added(edge, other_edge)
        if edge:
            leads[edge[-1]] = (crowd, edge)
        else:
            cycles[stand] = crowd
    return (cycles, leads)


def class_stands(cycles, leads):
    """Tell the greatest stands of cycles that are no leads, sorted."""
    # A border's greatest stand is a lead, so no cycles added up of these are a border.
    return [stand for stand in cycles if stand not in leads]


def by_homes(square):
    """Tell of each home its stands, sorted."""
    homes = {}
    for stand in all_stands(len(square[0])):
        homes.setdefault(home_of(square, stand), []).append(stand)
    return homes


def row_from(start, stands, cycles, leads):
    """Tell the row that meets the cycle of one greatest stand, and no border and no other class's cycle."""
    row = [start]
    for stand in stands:
        if stand > start and stand in cycles:
            # All else of this crowd lies beneath its greatest stand, which so can make up for it.
            crowd = leads[stand][1] if stand in leads else cycles[stand]
            if oddly_many(row, crowd):
                row.append(stand)
    return row


def taken_apart(square):
    """Tell the classes (cycle, row) and the borders (crowd, lead) of a square."""
    cycles, leads = cycles_and_leads(square)
    homes = by_homes(square)
    classes = [
        (cycles[stand], row_from(stand, homes[home_of(square, stand)], cycles, leads))
        for stand in class_stands(cycles, leads)
    ]
    return (classes, [(leads[lead][0], lead) for lead in leads])


def table(square):
    """Tell (grade, lean, many) for each home with classes, sorted."""
    cycles, leads = cycles_and_leads(square)
    found = {}
    for stand in class_stands(cycles, leads):
        home = home_of(square, stand)
        found[home] = found.get(home, 0) + 1
    return [(grade, lean, found[(grade, lean)]) for grade, lean in sorted(found)]


def once_divided(found):
    """Tell the dict of homes from which this one comes when all is put again one grade and two leans less."""
    left = {}
    # From the greatest grade on, so that what is put again from above is known and taken off.
    for grade, lean in sorted(found, reverse=True):
        many = found[(grade, lean)] - left.get((grade + 1, lean + 2), 0)
        if many > 0:
            left[(grade, lean)] = many
    return left


def rest(square):
    """Tell the rest of the table, (grade, lean, many) for each home, sorted."""
    found = {(grade, lean): many for grade, lean, many in table(square)}
    for division in range(len(square[0]) - len(lines_of(square))):
        found = once_divided(found)
    return [(grade, lean, found[(grade, lean)]) for grade, lean in sorted(found)]
