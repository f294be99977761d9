"""The search for deals of the greatest sum: branches, with a cut ahead of each branching."""

from farheld.losses import is_greatest, joined_prices, prices_of
from farheld.tableaus import Tableau, climbed, first_tableau, mended
from farheld.uses import count_outcomes, rows_of

FIRST_NODES = 40
CUT = 1000000
MOST_ROWS = 12


class Search:
    """One search for a deal, and what it has found so far."""

    def __init__(self, use, limit, enough, best):
        self.use = use
        self.limit = limit
        self.enough = enough
        self.best = best
        self.made = 0

    def is_done(self):
        """Tell whether the best deal known is enough."""
        return self.enough is not None and sum(self.best) >= self.enough

    def is_settled(self, table):
        """Tell whether nothing below a tableau is better than the best deal known then."""
        if table is None or self._is_hopeless(table):
            return True
        self._try_floors(table)
        return self._is_hopeless(table)

    def next_number(self):
        """Return an unused number for a branch; a cut has that number above CUT."""
        self.made += 1
        return len(self.use) + MOST_ROWS + self.made

    def _is_hopeless(self, table):
        return table.rows[0][-1] // table.bottom <= sum(self.best)

    def _try_floors(self, table):
        deal = [0] * len(self.use)
        for at in range(1, len(table.rows)):
            if table.inner[at] < len(deal):
                deal[table.inner[at]] = table.rows[at][-1] // table.bottom
        filled = filled_deal(self.use, self.limit, deal)
        if sum(filled) > sum(self.best):
            self.best = filled


def find_deal(use, limit, enough=None):
    """Return a deal of the greatest sum as a list; any deal of at least `enough` will do.

    Which branches are taken depends on the order of the words. With a bad one the search may
    go on for very long, so it is given up after some nodes, the prices met so far are asked for
    a proof that nothing is left to find, and it is begun anew in another order.
    """
    best = filled_deal(use, limit, [0] * len(use))
    known = None
    tries = 0
    while True:
        words = _order_for(len(use), tries)
        outcomes = _order_for(count_outcomes(use), tries)
        search = Search([use[word] for word in words], limit, enough, [best[word] for word in words])
        table = _first_node(search, outcomes)
        is_over = _search_nodes(search, table, FIRST_NODES * (1 + tries))
        for place, word in enumerate(words):
            best[word] = search.best[place]
        met = prices_of(table, words, outcomes)
        known = met if known is None else joined_prices(known, met)
        if is_over or is_greatest(use, limit, sum(best), known):
            return best
        tries += 1


def filled_deal(use, limit, deal):
    """Return a deal to which each word in turn, those of few outcomes first, has added what it can."""
    told = list(deal)
    room = [limit] * count_outcomes(use)
    for word, heard in enumerate(use):
        for outcome in heard:
            room[outcome] -= told[word]
    for _, word in sorted([(len(heard), word) for word, heard in enumerate(use)]):
        more = min([room[outcome] for outcome in use[word]])
        told[word] += more
        for outcome in use[word]:
            room[outcome] -= more
    return told


def _order_for(many, tries):
    # Any orders do that share no pattern with the use; the first one is the plain one.
    keys = [((place + 1) * (place + 7) * (place + tries) * tries * 37 % 1009, place) for place in range(many)]
    return [place for _, place in sorted(keys)]


def _first_node(search, outcomes):
    rows = rows_of(search.use)
    table = first_tableau([rows[outcome] for outcome in outcomes], [search.limit] * len(rows), [1] * len(search.use))
    highest, _ = climbed(table)
    return highest


def _search_nodes(search, table, most):
    """Search below a tableau, but at most so many nodes; tell whether the search is over."""
    waiting = [table]
    nodes = 0
    while waiting and not search.is_done():
        if nodes == most:
            return False
        nodes += 1
        waiting.extend(_branches(search, waiting.pop()))
    return True


def _branches(search, table):
    """Return the two tableaus below one, none if there is nothing better below it."""
    table = mended(table)
    if search.is_settled(table):
        return []
    table = mended(_with_cut(_without_idle_cuts(table), CUT + search.next_number()))
    if search.is_settled(table):
        return []
    row = table.rows[_most_broken(table, len(search.use))]
    whole = row[-1] // table.bottom
    # The word's amount is at most its whole part, or at least one more.
    at_most = [-entry for entry in row[:-1]] + [whole * table.bottom - row[-1]]
    at_least = row[:-1] + [row[-1] - (whole + 1) * table.bottom]
    below = _with_row(table, at_most, search.next_number())
    above = _with_row(table, at_least, search.next_number())
    return [below, above]


def _with_cut(table, number):
    """Add the cut of the first row whose limit is not whole; a table that is not settled has one."""
    broken = [row for row in table.rows if row[-1] % table.bottom != 0]
    return _with_row(table, [-(entry % table.bottom) for entry in broken[0]], number)


def _with_row(table, row, number):
    return Tableau(table.bottom, table.rows + [row], table.inner + [number], table.outer)


def _without_idle_cuts(table):
    # A cut whose own variable is inner does not hold the point back, and only costs time.
    kept = [at for at in range(len(table.rows)) if at == 0 or table.inner[at] < CUT]
    rows = [table.rows[at] for at in kept]
    return Tableau(table.bottom, rows, [table.inner[at] for at in kept], table.outer)


def _most_broken(table, words):
    """Return the row of the word whose amount is farthest from whole numbers."""
    best = None
    far = 0
    for at in range(1, len(table.rows)):
        part = table.rows[at][-1] % table.bottom
        gap = min(part, table.bottom - part)
        if table.inner[at] < words and gap > far:
            best, far = at, gap
    return best
