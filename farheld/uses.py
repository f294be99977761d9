"""Uses: what a channel does in one phase, for each word the outcomes that can come of it."""


def count_outcomes(use):
    """Return how many outcomes a use has: from 0 to the greatest that stands in it."""
    return 1 + max([max(heard) for heard in use])


def rows_of(use):
    """Return for each outcome a row with a 1 for each word that can come out so, else a 0."""
    return [[1 if outcome in heard else 0 for heard in use] for outcome in range(count_outcomes(use))]
