"""The sums of powers that a square tells: by its stands, by winding numbers, by the crossings of its line."""

from rookborders.crossings import crossings_of, words_of
from rookborders.powers import at_one, determinant, parted, tidy, times
from rookborders.squares import lines_of, vet_one_line
from rookborders.stands import all_stands, home_of


def signed_sum(square):
    """Tell the signed sum: for each stand its lean once, taken off for odd grades."""
    homes = [home_of(square, stand) for stand in all_stands(len(square[0]))]
    return tidy([(lean, 1 if grade % 2 == 0 else -1) for grade, lean in homes])


def own_sum(square):
    """Tell the signed sum without what the square's size adds."""
    found = signed_sum(square)
    for division in range(len(square[0]) - len(lines_of(square))):
        found = parted(found, [(-2, -1), (0, 1)])
    return found


def passing(square, column, height):
    """Tell 1 where a column passes a height downwards, -1 where it does upwards, else 0."""
    rings, crosses = square
    if rings[column] < height <= crosses[column]:
        return 1
    return -1 if crosses[column] < height <= rings[column] else 0


def windings(square):
    """Tell the winding numbers: for each bar a list of them by height."""
    size = len(square[0])
    return [
        [sum([passing(square, column, height) for column in range(bar)]) for height in range(size)]
        for bar in range(size)
    ]


def arcs_by_places(word):
    """Tell of each place of a word, which passes beneath somewhere, the arc that comes to it."""
    many = len([True for number, over in word if not over])
    arcs = []
    arc = 0
    for number, over in word:
        arcs.append(arc)
        if not over:
            # The last passing beneath leads into the arc with which the word begins.
            arc = (arc + 1) % many
    return arcs


def row_at(word, arcs, number, sign):
    """Tell the row of sums, one an arc, of the crossing with this number and sign."""
    size = len(word) // 2
    over = arcs[word.index((number, True))]
    into = arcs[word.index((number, False))]
    out = (into + 1) % size
    if sign < 0:
        into, out = out, into
    tuples = [[] for arc in range(size)]
    tuples[out].append((0, -1))
    tuples[into].append((1, 1))
    tuples[over].extend([(0, 1), (1, -1)])
    return [tidy(few) for few in tuples]


def balanced(one):
    """Tell a sum with powers raised so that they are the same turned about, with the worth 1 at one."""
    middle = (one[0][0] + one[-1][0]) // 2
    return times(one, [(-middle, at_one(one))])


def by_crossings(square):
    """Tell the sum of the square's one line, or refuse it with NotOne."""
    vet_one_line(square)
    word = words_of(square)[0]
    arcs = arcs_by_places(word)
    rows = [row_at(word, arcs, number, sign) for number, (column, row, sign) in enumerate(crossings_of(square))]
    return balanced(determinant([row[:-1] for row in rows[:-1]]))
