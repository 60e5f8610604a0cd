"""The looker: it lets papers by that hold, and tells of others the first clause that fails."""

from rookborders.borders import added, border, oddly_many, oddly_often
from rookborders.errors import NoMove, NoPaper, TooMany
from rookborders.exchanges import led
from rookborders.moves import columns_changed, is_move, may_change, moved
from rookborders.orders import is_whole
from rookborders.squares import is_square
from rookborders.stands import all_stands, home_of, is_stand

# How many things the tuple of each kind of paper has.
MANY_THINGS = {"moves": 4, "class": 4, "apart": 4, "exchange": 5}
MOST_MOVES = 30
MOST_NUMBERS = 2
MOST_LOOKED_SIZE = 5


def ask(at, holds):
    """Refuse the paper where the clause with this number doesn't hold."""
    if not holds:
        raise NoPaper(at)


def is_paper(thing):
    """Tell whether any thing is a tuple of a known text and as many things as go with it."""
    if not isinstance(thing, tuple) or not thing or not isinstance(thing[0], str):
        return False
    return MANY_THINGS.get(thing[0]) == len(thing)


def is_small_square(thing):
    """Tell whether any thing is a square that is small enough to be looked at stand by stand."""
    return is_square(thing) and len(thing[0]) <= MOST_LOOKED_SIZE


def is_crowd(size, thing):
    """Tell whether any thing is a crowd of stands of this size."""
    if not isinstance(thing, list) or not all([is_stand(size, stand) for stand in thing]):
        return False
    return thing == sorted(set(thing))


def is_pair(thing):
    """Tell whether any thing is a tuple of two things."""
    return isinstance(thing, tuple) and len(thing) == 2


def are_classes(size, thing):
    """Tell whether any thing is a list of tuples of two crowds."""
    if not isinstance(thing, list) or not all([is_pair(pair) for pair in thing]):
        return False
    return all([is_crowd(size, cycle) and is_crowd(size, row) for cycle, row in thing])


def are_borders(size, thing):
    """Tell whether any thing is a list of tuples of a crowd and a stand."""
    if not isinstance(thing, list) or not all([is_pair(pair) for pair in thing]):
        return False
    return all([is_crowd(size, crowd) and is_stand(size, lead) for crowd, lead in thing])


def are_crowds(size, thing):
    """Tell whether any thing is a list of crowds, one for each stand."""
    if not isinstance(thing, list) or len(thing) != len(all_stands(size)):
        return False
    return all([is_crowd(size, crowd) for crowd in thing])


def homes_of(square):
    """Tell of each stand its home."""
    return {stand: home_of(square, stand) for stand in all_stands(len(square[0]))}


def edges_of(square):
    """Tell of each stand its border."""
    return {stand: border(square, [stand]) for stand in all_stands(len(square[0]))}


def added_up(by_stands, crowd):
    """Tell the crowd that comes of a crowd by what comes of each of its stands."""
    return oddly_often([end for stand in crowd for end in by_stands[stand]])


def has_one_home(homes, crowd):
    """Tell whether all stands of a list have one home."""
    return len({homes[stand] for stand in crowd}) <= 1


def is_like_move(thing):
    """Tell whether any thing is a tuple of a text and at most two whole numbers behind it."""
    if not isinstance(thing, tuple) or not thing or not isinstance(thing[0], str):
        return False
    return len(thing) - 1 <= MOST_NUMBERS and all([is_whole(number) for number in thing[1:]])


def are_like_moves(thing):
    """Tell whether any thing is a list of at most thirty tuples like moves."""
    if not isinstance(thing, list) or len(thing) > MOST_MOVES:
        return False
    return all([is_like_move(move) for move in thing])


def moved_once(square, move):
    """Tell the square behind a tuple like a move, None where it is no move or is refused."""
    if not is_move(move):
        return None
    try:
        return moved(square, move)
    except (NoMove, TooMany):
        return None


def look_at_moves(one, moves, other):
    """Ask the clauses of moves from one square to another one."""
    ask(2, is_square(one) and is_square(other))
    ask(3, are_like_moves(moves))
    square = one
    for move in moves:
        square = moved_once(square, move)
        ask(4, square is not None)
    ask(5, square == other)


def meets_own_alone(classes, at):
    """Tell whether a class's row has oddly many in common with its own cycle and evenly many with each other one."""
    row = classes[at][1]
    return all([oddly_many(row, pair[0]) == (place == at) for place, pair in enumerate(classes)])


def look_through_classes(homes, edges, classes):
    """Ask the clauses that each class is to hold to, all classes by one clause ahead of the next."""
    ask(4, all([has_one_home(homes, cycle + row) for cycle, row in classes]))
    ask(5, not any([added_up(edges, cycle) for cycle, row in classes]))
    ask(6, not any([oddly_many(row, edges[stand]) for cycle, row in classes for stand in edges]))
    ask(7, all([meets_own_alone(classes, at) for at in range(len(classes))]))


def look_at_class(square, cycle, row):
    """Ask the clauses of one class of a square."""
    ask(2, is_small_square(square))
    ask(3, are_classes(len(square[0]), [(cycle, row)]))
    look_through_classes(homes_of(square), edges_of(square), [(cycle, row)])


def is_border(homes, edges, crowd, lead):
    """Tell whether a crowd has one home and a lead is the greatest stand of its border."""
    return has_one_home(homes, crowd) and added_up(edges, crowd)[-1:] == [lead]


def look_at_apart(square, classes, borders):
    """Ask the clauses of a square taken apart."""
    ask(2, is_small_square(square))
    size = len(square[0])
    ask(3, are_classes(size, classes) and are_borders(size, borders))
    homes, edges = homes_of(square), edges_of(square)
    look_through_classes(homes, edges, classes)
    ask(8, all([is_border(homes, edges, crowd, lead) for crowd, lead in borders]))
    ask(8, len({lead for crowd, lead in borders}) == len(borders))
    ask(9, len(edges) == len(classes) + 2 * len(borders))


def look_at_exchange(square, c, all_led, all_tied):
    """Ask the clauses of the maps of an exchange of columns."""
    ask(2, is_small_square(square))
    ask(3, is_whole(c) and may_change(square, c))
    size = len(square[0])
    ask(4, are_crowds(size, all_led) and are_crowds(size, all_tied))
    stands = all_stands(size)
    there, tie = dict(zip(stands, all_led)), dict(zip(stands, all_tied))
    other = columns_changed(square, c)
    edges, other_edges = edges_of(square), edges_of(other)
    ask(5, all([added_up(other_edges, there[stand]) == added_up(there, edges[stand]) for stand in stands]))
    back = {stand: led(other, c, [stand]) for stand in stands}
    for stand in stands:
        there_and_back = added(added_up(back, there[stand]), [stand])
        ask(6, there_and_back == added(added_up(edges, tie[stand]), added_up(tie, edges[stand])))


def look(paper):
    """Let a paper by with True; refuse any other thing with NoPaper, by the first clause that fails."""
    ask(1, is_paper(paper))
    kind = paper[0]
    if kind == "moves":
        look_at_moves(paper[1], paper[2], paper[3])
    elif kind == "class":
        look_at_class(paper[1], paper[2], paper[3])
    elif kind == "apart":
        look_at_apart(paper[1], paper[2], paper[3])
    else:
        look_at_exchange(paper[1], paper[2], paper[3], paper[4])
    return True
