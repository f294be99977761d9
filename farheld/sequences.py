"""What many constructors ask of the sequences that they are given."""

from farheld.ratios import is_whole


def is_sequence(thing, least=0, most=None):
    """Tell whether a thing is a list or a tuple of least to most things."""
    if not isinstance(thing, (list, tuple)):
        return False
    return least <= len(thing) and (most is None or len(thing) <= most)


def is_couple(thing):
    """Tell whether a thing is a sequence of two things."""
    return isinstance(thing, (list, tuple)) and len(thing) == 2


def settled(thing, kept):
    """Return a thing that equals the tuple that is to be kept of it, else this tuple.

    So what was passed in as tuples is not held twice; programs may have millions of them.
    """
    return thing if thing == kept else kept


def is_ascending(thing, least, most, below):
    """Tell whether a thing is an ascending sequence of unlike whole numbers from 0 to below - 1."""
    if not is_sequence(thing, least, most):
        return False
    low = 0
    for one in thing:
        if not is_whole(one, low, below - 1):
            return False
        low = one + 1
    return True


def is_order(thing, many):
    """Tell whether a thing is a sequence in which each number from 0 to many - 1 stands once."""
    if not is_sequence(thing, many, many):
        return False
    if not all([is_whole(one) for one in thing]):
        return False
    return sorted(thing) == list(range(many))


def places_of(order):
    """Return where each number stands in an order."""
    places = [0] * len(order)
    for place, number in enumerate(order):
        places[number] = place
    return tuple(places)
