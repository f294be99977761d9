"""Counts: how many messages uses can tell exactly, whatever comes out."""

from farheld.deals import find_deal
from farheld.errors import BadBase, CountFull
from farheld.ratios import ONE, compare, times
from farheld.shares import number_of_uses
from farheld.uses import count_outcomes

MOST = 600


def largest_deal(use, limit):
    """Return a deal of the greatest sum for a limit, by word."""
    return tuple(find_deal(use, limit))


def count_messages(uses, start=1):
    """Return the greatest number of messages that can be told, at most 600."""
    return counts_behind(uses, start)[-1]


def counts_behind(uses, start=1):
    """Return the counts of the last 0, 1, 2, .. of the uses."""
    return (start,) + tuple([sum(deal) for deal in deals_behind(uses, start)])


def deals_behind(uses, start):
    """Return the deals by which the counts are reached, that of the last use first.

    The limit of each deal is the count behind its use, so what is left can be told there.
    """
    deals = []
    limit = start
    for use in reversed(list(uses)):
        deals.append(_capped_deal(use, limit))
        limit = sum(deals[-1])
    return deals


def _capped_deal(use, limit):
    """Return a deal of the greatest sum for a limit of 1 or more, but of 600 if more could be dealt."""
    if limit == MOST:
        # Nothing greater is told, and this much one word alone can bear.
        return (MOST,) + (0,) * (len(use) - 1)
    return trimmed_deal(find_deal(use, limit, MOST), MOST)


def trimmed_deal(deal, most):
    """Return a deal with at most this sum: the first words keep what they have."""
    told = []
    left = most
    for amount in deal:
        told.append(min(amount, left))
        left -= told[-1]
    return tuple(told)


def list_size(uses):
    """Return the least start from which uses tell more than the start, None if all are dead."""
    sizes = [_size_of_use(use) for use in uses]
    alive = [size for size in sizes if size is not None]
    return min(alive) if alive else None


def _size_of_use(use):
    """Return one less than the least number of words without a common outcome, None if a use is dead.

    One message more than the limit can be dealt as soon as no outcome is common to all its words.
    """
    masks = [sum([1 << outcome for outcome in heard]) for heard in use]
    shared = [(1 << count_outcomes(use)) - 1]
    for size in range(len(use)):
        # Some word must lack the least outcome that is still shared.
        shared = sorted(set([one & mask for one in shared for mask in masks if mask & _lowest_bit(one) == 0]))
        if shared and shared[0] == 0:
            return size
    return None


def _lowest_bit(mask):
    return mask & -mask


def periods_needed(uses, base, start=1):
    """Return the first number of periods at which the count is above start times a power of the base."""
    if compare(base, ONE) < 0:
        raise BadBase()
    size = list_size(uses)
    if size is None or start < size or compare(base, number_of_uses(uses)) >= 0:
        return None
    count, due, tried = start, (start, 1), 0
    while True:
        tried += 1
        count = count_messages(uses, count)
        due = times(due, base)
        if compare((count, 1), due) > 0:
            return tried
        if count == MOST:
            raise CountFull(tried)
