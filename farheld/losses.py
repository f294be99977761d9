"""Proofs that no deal has a greater sum, where branching alone would take too long.

By prices that are right for a use, a deal loses, against the value of its problem, the price of
each outcome for each message of room that it leaves there, and the lack of each word whose
prices are above 1 for each message that it has. All this room and these amounts are whole
numbers from 0 on. If the words without a lack may have any whole amounts, also below 0, then
what is lost need only make up for the remainder of the limits modulo the columns of these words;
and if that costs more than a greater sum would leave to lose, there is no deal with that sum.
"""

from heapq import heappop, heappush

from farheld.uses import count_outcomes

MOST_REMAINDERS = 1500


class Prices:
    """Prices of a use by outcome, lacks by word and their common value, all times the bottom."""

    def __init__(self, bottom, prices, lacks, value):
        self.bottom = bottom
        self.prices = prices
        self.lacks = lacks
        self.value = value


def prices_of(table, words, outcomes):
    """Return the prices at the last tableau of a use's problem with limits 1.

    `words` and `outcomes` tell the numbers in the use of the tableau's columns and rows.
    """
    prices = [0] * len(outcomes)
    lacks = [0] * len(words)
    for at, number in enumerate(table.outer):
        if number < len(words):
            lacks[words[number]] = table.rows[0][at]
        else:
            prices[outcomes[number - len(words)]] = table.rows[0][at]
    return Prices(table.bottom, prices, lacks, sum(prices))


def joined_prices(one, other):
    """Return the middle of two prices: it has each price and each lack that one of them has."""
    return Prices(
        2 * one.bottom * other.bottom,
        [a * other.bottom + b * one.bottom for a, b in zip(one.prices, other.prices)],
        [a * other.bottom + b * one.bottom for a, b in zip(one.lacks, other.lacks)],
        one.value * other.bottom + other.value * one.bottom,
    )


def is_greatest(use, limit, total, known):
    """Tell whether prices show that no deal has a sum above the total; False if they do not."""
    budget = known.value * limit - (total + 1) * known.bottom
    if budget < 0:
        return True
    priced = [outcome for outcome in range(count_outcomes(use)) if known.prices[outcome] > 0]
    steps = [(known.prices[outcome], _column([outcome], priced)) for outcome in priced]
    free = []
    for heard, lack in zip(use, known.lacks):
        if lack > 0:
            steps.append((lack, _column(heard, priced)))
        else:
            free.append(_column(heard, priced))
    basis = stepped_basis(free, len(priced))
    return _is_out_of_reach([limit] * len(priced), steps, basis, budget)


def _column(heard, priced):
    return [1 if outcome in heard else 0 for outcome in priced]


def _is_out_of_reach(start, steps, basis, budget):
    """Tell whether steps within the budget surely do not lead from the start to a remainder of 0."""
    waiting = [(0, remainder_by(basis, start))]
    seen = {}
    while waiting:
        cost, at = heappop(waiting)
        if at in seen:
            continue
        seen[at] = True
        if not any([entry != 0 for entry in at]) or len(seen) > MOST_REMAINDERS:
            return False
        for price, step in steps:
            if cost + price <= budget:
                ahead = remainder_by(basis, [entry - part for entry, part in zip(at, step)])
                if ahead not in seen:
                    heappush(waiting, (cost + price, ahead))
    return True


def stepped_basis(vectors, length):
    """Return rows (place, vector) with the same whole sums, no entry ahead of the place, one above 0 there."""
    basis = []
    left = list(vectors)
    for place in range(length):
        lead, left = _gathered_at(left, place)
        if lead is not None:
            basis.append((place, lead))
    return basis


def _gathered_at(vectors, place):
    """Return one vector with an entry at a place and others without, of the same whole sums."""
    here = [vector for vector in vectors if vector[place] != 0]
    left = [vector for vector in vectors if vector[place] == 0]
    while len(here) > 1:
        sizes = [abs(vector[place]) for vector in here]
        lead = here.pop(sizes.index(min(sizes)))
        reduced = [_less_times(vector, lead, vector[place] // lead[place]) for vector in here]
        here = [lead] + [vector for vector in reduced if vector[place] != 0]
        left = left + [vector for vector in reduced if vector[place] == 0]
    if not here:
        return (None, left)
    lead = here[0]
    return (lead if lead[place] > 0 else [-entry for entry in lead], left)


def remainder_by(basis, vector):
    """Return the one remainder of a vector modulo the whole sums of a stepped basis."""
    left = vector
    for place, lead in basis:
        left = _less_times(left, lead, left[place] // lead[place])
    return tuple(left)


def _less_times(vector, lead, many):
    if many == 0:
        return vector
    return [entry - many * part for entry, part in zip(vector, lead)]
