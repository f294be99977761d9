"""Shares of uses: what the worst outcome keeps of the best mixture of words."""

from farheld.ratios import ONE, compare, is_ratio, over, product_of, sum_of
from farheld.simplex import are_amounts, solve_problem, weighed
from farheld.uses import rows_of


class Share:
    """The share and the number of a use, with a mixture and weights that show them."""

    def __init__(self, share, number, mixture, weights):
        self.share = share
        self.number = number
        self.mixture = mixture
        self.weights = weights

    def __eq__(self, other):
        if not isinstance(other, Share):
            return False
        if self.share != other.share or self.number != other.number:
            return False
        return self.mixture == other.mixture and self.weights == other.weights


def find_share(use):
    """Return the Share of a use."""
    solution = _solve_use(use)
    number = solution.value
    mixture = tuple([over(one, number) for one in solution.point])
    weights = tuple([over(one, number) for one in solution.prices])
    return Share(over(ONE, number), number, mixture, weights)


def number_of(use):
    """Return the number of a use: 1 divided by its share."""
    return _solve_use(use).value


def number_of_uses(uses):
    """Return the product of the numbers of uses."""
    return product_of([number_of(use) for use in uses])


def share_fault(use, found):
    """Return the first fault of a Share, None if it is right."""
    rows = rows_of(use)
    if not is_mixture(found.mixture, len(use)):
        return ("mixture", None)
    if not is_mixture(found.weights, len(rows)):
        return ("weights", None)
    if not is_ratio(found.share) or found.share[0] <= 0:
        return ("share", None)
    for outcome, row in enumerate(rows):
        if compare(weighed(row, found.mixture), found.share) > 0:
            return ("above", outcome)
    for word in range(len(use)):
        if compare(weighed([row[word] for row in rows], found.weights), found.share) < 0:
            return ("below", word)
    if not is_ratio(found.number) or found.number != over(ONE, found.share):
        return ("number", None)
    return None


def is_mixture(thing, many):
    """Tell whether a thing is a tuple of so many ratios of 0 or more with the sum 1."""
    return are_amounts(thing, many) and sum_of(thing) == ONE


def _solve_use(use):
    # Amounts of words that meet no outcome by more than 1 have the number as their greatest sum.
    rows = rows_of(use)
    return solve_problem(rows, [1] * len(rows), [1] * len(use))
