"""How many handles a surface in a line has: at least by the sum and by the table, and as many as the told one has."""

from rookborders.crossings import crossings_of, words_of
from rookborders.orders import order_rounds
from rookborders.squares import vet_one_line
from rookborders.sums import by_crossings
from rookborders.tables import rest


def least_by_sum(square):
    """Tell the greatest power of the line's sum, or refuse it with NotOne."""
    return by_crossings(square)[-1][0]


def greatest_lean(found):
    """Tell the greatest lean of a rest."""
    return max([lean for grade, lean, many in found])


def least_by_table(square):
    """Tell half of the greatest lean of the rest, or refuse it with NotOne."""
    vet_one_line(square)
    return greatest_lean(rest(square)) // 2


def place_behind(word, place):
    """Tell the place of a word that comes after the other place with the same number, round."""
    number, over = word[place]
    return (word.index((number, not over)) + 1) % len(word)


def rounds_of(square):
    """Tell the rounds of the places of the line's word, or refuse it with NotOne."""
    vet_one_line(square)
    word = words_of(square)[0]
    # The line that passes no crossing is one round all the same.
    return order_rounds([place_behind(word, place) for place in range(len(word))]) if word else [[]]


def of_surface(square):
    """Tell the handles of the surface that the rounds make, or refuse it with NotOne."""
    return (len(crossings_of(square)) - len(rounds_of(square)) + 1) // 2


def is_one_sided(square):
    """Tell whether the rest has one class alone at its greatest lean."""
    found = rest(square)
    top = greatest_lean(found)
    return sum([many for grade, lean, many in found if lean == top]) == 1
