"""Where the lines of a square cross, and their twists, ties and words."""

from rookborders.squares import lines_of


def lies_between(at, one, other):
    """Tell whether a place lies between two others, at neither of them."""
    return min(one, other) < at < max(one, other)


def goes_up(square, column):
    """Tell whether a column is gone upwards: from its cross to its ring."""
    rings, crosses = square
    return crosses[column] < rings[column]


def goes_right(square, row):
    """Tell whether a row is gone to the right: from its ring to its cross."""
    rings, crosses = square
    return rings.index(row) < crosses.index(row)


def is_crossing(square, column, row):
    """Tell whether a column and a row cross."""
    rings, crosses = square
    if not lies_between(row, rings[column], crosses[column]):
        return False
    return lies_between(column, rings.index(row), crosses.index(row))


def sign_at(square, column, row):
    """Tell the sign of the crossing of a column and a row."""
    return 1 if goes_up(square, column) != goes_right(square, row) else -1


def crossings_of(square):
    """Tell the crossings as tuples (column, row, sign), sorted."""
    size = len(square[0])
    return [
        (column, row, sign_at(square, column, row))
        for column in range(size)
        for row in range(size)
        if is_crossing(square, column, row)
    ]


def meetings_of(square, lines):
    """Tell of each crossing (over, beneath, sign), over and beneath being the numbers of its lines."""
    rings = square[0]
    line_at = {column: number for number, line in enumerate(lines) for column in line}
    return [
        (line_at[column], line_at[rings.index(row)], sign)
        for column, row, sign in crossings_of(square)
    ]


def signs_between(meetings, one, other):
    """Tell the sum of the signs of the crossings of one line with another one, or with itself."""
    pairs = ((one, other), (other, one))
    return sum([sign for over, beneath, sign in meetings if (over, beneath) in pairs])


def twists_of(square):
    """Tell the twist of each line, in the order of the lines."""
    lines = lines_of(square)
    meetings = meetings_of(square, lines)
    return [signs_between(meetings, line, line) for line in range(len(lines))]


def ties_of(square):
    """Tell (k, l, tie) for every two lines, k less than l, sorted."""
    lines = lines_of(square)
    meetings = meetings_of(square, lines)
    # Two closed lines cross evenly often, so the half is a whole number.
    return [
        (one, other, signs_between(meetings, one, other) // 2)
        for one in range(len(lines))
        for other in range(one + 1, len(lines))
    ]


def along_column(square, crossings, column):
    """Tell what the line passes on a column, from its cross to its ring."""
    # The crossings are sorted, so on one column their numbers rise as the rows do.
    numbers = [number for number, (at, row, sign) in enumerate(crossings) if at == column]
    if not goes_up(square, column):
        numbers.reverse()
    return [(number, True) for number in numbers]


def along_row(square, crossings, row):
    """Tell what the line passes on a row, from its ring to its cross."""
    # The crossings are sorted, so on one row their numbers rise as the columns do.
    numbers = [number for number, (column, at, sign) in enumerate(crossings) if at == row]
    if not goes_right(square, row):
        numbers.reverse()
    return [(number, False) for number in numbers]


def word_of(square, crossings, line):
    """Tell what one line passes, from the cross of its first column on."""
    rings = square[0]
    word = []
    for column in line:
        word.extend(along_column(square, crossings, column))
        word.extend(along_row(square, crossings, rings[column]))
    return word


def words_of(square):
    """Tell the word of each line, in the order of the lines."""
    crossings = crossings_of(square)
    return [word_of(square, crossings, line) for line in lines_of(square)]
