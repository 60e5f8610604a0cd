"""Orders: tuples of the numbers from 0 on, each one once, as marks and rooks are told by."""


def is_whole(thing):
    """Tell whether any thing is a whole number."""
    # Python counts truths among the ints; the document does not.
    return isinstance(thing, int) and not isinstance(thing, bool)


def is_order(size, thing):
    """Tell whether any thing is a tuple of the numbers from 0 to size - 1, each one once."""
    if not isinstance(thing, tuple) or len(thing) != size:
        return False
    # Looked at ahead of sorting: things of unlike kinds can't be sorted.
    if not all([is_whole(number) for number in thing]):
        return False
    return sorted(thing) == list(range(size))


def order_turned(order, k):
    """Tell the order in which each number has come k places further, round."""
    size = len(order)
    return tuple([order[(place - k) % size] for place in range(size)])


def order_raised(order, k):
    """Tell the order in which each number is k more, round."""
    size = len(order)
    return tuple([(number + k) % size for number in order])


def order_tipped(order):
    """Tell the order in which places and numbers have exchanged their parts."""
    return tuple([order.index(number) for number in range(len(order))])


def order_exchanged(order, one, other):
    """Tell the order in which two places have exchanged their numbers."""
    numbers = list(order)
    numbers[one], numbers[other] = order[other], order[one]
    return tuple(numbers)


def order_rounds(order):
    """Tell the rounds in which an order leads from place to place, each from its least place on, sorted."""
    rounds = []
    for start in range(len(order)):
        places = [start]
        while order[places[-1]] != start:
            places.append(order[places[-1]])
        # A round comes up once from each of its places; that from its least one is kept.
        if min(places) == start:
            rounds.append(places)
    return rounds
