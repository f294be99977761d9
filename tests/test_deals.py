"""The search for deals and the proofs that it uses, against slow ways to the same."""

import itertools
import random

import farheld.deals as deals
from farheld.deals import filled_deal, find_deal
from farheld.losses import Prices, is_greatest, joined_prices, prices_of, remainder_by, stepped_basis
from farheld.ratios import floor_of, times
from farheld.shares import number_of
from farheld.tableaus import climbed, first_tableau
from farheld.uses import count_outcomes, rows_of
from tests.helpers import RING, HeldTest, each_misses_one, ring
from tests.test_counts import is_deal, turned_circle
from tests.test_shares import some_use


def slow_sum(use, limit):
    """Return the greatest sum of a deal, word by word over all rooms that are left."""
    outcomes = count_outcomes(use)
    best = {(limit,) * outcomes: 0}
    for heard in use:
        longer = {}
        for room, total in best.items():
            for many in range(min(room[outcome] for outcome in heard) + 1):
                left = tuple(one - many if outcome in heard else one for outcome, one in enumerate(room))
                longer[left] = max(longer.get(left, 0), total + many)
        best = longer
    return max(best.values())


def some_hard_use(source):
    """Return a use in which no word and no outcome stands out."""
    kind = source.choice(("circle", "graph", "sets", "permutations"))
    many = source.randint(5, 8)
    if kind == "circle":
        return turned_circle(many, source.sample(range(many), source.randint(2, many - 1)))
    if kind == "graph":
        return tuple([tuple(sorted(source.sample(range(6), 2))) for _ in range(many)])
    if kind == "sets":
        size = source.randint(2, 4)
        return tuple([tuple(sorted(source.sample(range(7), size))) for _ in range(many)])
    orders = [source.sample(range(many), many) for _ in range(source.randint(2, 3))]
    return tuple([tuple(sorted({order[word] for order in orders})) for word in range(many)])


def prices_in_order(use, words, outcomes):
    rows = rows_of([use[word] for word in words])
    table, _ = climbed(first_tableau([rows[outcome] for outcome in outcomes], [1] * len(rows), [1] * len(use)))
    return prices_of(table, words, outcomes)


def some_prices(source, use, many):
    known = None
    for _ in range(many):
        words = source.sample(range(len(use)), len(use))
        outcomes = source.sample(range(count_outcomes(use)), count_outcomes(use))
        met = prices_in_order(use, words, outcomes)
        known = met if known is None else joined_prices(known, met)
    return known


class PlainSearch(deals.Search):
    """A search that takes a point only where all of it is whole, so nothing is found by luck."""

    def _try_floors(self, table):
        if all(row[-1] % table.bottom == 0 for row in table.rows):
            super()._try_floors(table)


class SearchTest(HeldTest):
    def test_against_slow_sums(self):
        source = random.Random(51)
        for _ in range(250):
            use = some_hard_use(source)
            limit = source.randint(1, 4 if len(use) < 7 else 3)
            deal = find_deal(use, limit)
            self.assertTrue(is_deal(use, limit, deal))
            self.assertEqual(sum(deal), slow_sum(use, limit), (use, limit))

    def test_branches_alone_find_the_greatest(self):
        source = random.Random(59)
        branched = 0
        for _ in range(250):
            use = some_hard_use(source)
            limit = source.randint(1, 4 if len(use) < 7 else 3)
            search = PlainSearch(use, limit, None, [0] * len(use))
            self.assertTrue(deals._search_nodes(search, deals._first_node(search, range(count_outcomes(use))), 5000))
            self.assertTrue(is_deal(use, limit, search.best))
            self.assertEqual(sum(search.best), slow_sum(use, limit), (use, limit))
            branched += search.made > 1
        self.assertGreater(branched, 8)

    def test_branches_alone_and_with_filling_find_the_same(self):
        source = random.Random(60)
        branched = 0
        for _ in range(120):
            many = source.randint(8, 12)
            use = turned_circle(many, source.sample(range(many), source.randint(3, 8)))
            limit = source.randint(2, 30)
            search = PlainSearch(use, limit, None, [0] * many)
            is_over = deals._search_nodes(search, deals._first_node(search, range(count_outcomes(use))), 200)
            if is_over and search.made > 1:
                branched += 1
                self.assertEqual(sum(search.best), sum(find_deal(use, limit)), (use, limit))
        self.assertGreater(branched, 20)

    def test_enough(self):
        source = random.Random(52)
        for _ in range(100):
            use = some_hard_use(source)
            limit = source.randint(1, 600)
            greatest = sum(find_deal(use, limit))
            enough = source.randint(1, greatest + 5)
            deal = find_deal(use, limit, enough)
            self.assertTrue(is_deal(use, limit, deal))
            self.assertGreaterEqual(sum(deal), min(enough, greatest))

    def test_filled_deals(self):
        source = random.Random(53)
        for _ in range(100):
            use = some_use(source)
            limit = source.randint(0, 20)
            begun = [source.randint(0, limit // len(use)) for _ in use]
            told = list(begun)
            deal = filled_deal(use, limit, begun)
            self.assertEqual(begun, told)
            self.assertTrue(is_deal(use, limit, deal))
            for word in range(len(use)):
                self.assertGreaterEqual(deal[word], begun[word])
                self.assertFalse(is_deal(use, limit, deal[:word] + [deal[word] + 1] + deal[word + 1:]))


class ProofTest(HeldTest):
    def test_prices(self):
        source = random.Random(54)
        for _ in range(60):
            use = some_hard_use(source) if source.random() < 0.5 else some_use(source)
            known = some_prices(source, use, source.randint(1, 3))
            number = number_of(use)
            self.assertEqual(known.value * number[1], number[0] * known.bottom)
            self.assertEqual(sum(known.prices), known.value)
            for word, heard in enumerate(use):
                met = sum(known.prices[outcome] for outcome in heard)
                self.assertEqual(met - known.bottom, known.lacks[word])
            self.assertTrue(all(one >= 0 for one in known.prices + known.lacks))

    def test_joined_prices(self):
        one, other = Prices(2, [1, 0], [0, 3], 1), Prices(3, [0, 3], [6, 0], 3)
        joined = joined_prices(one, other)
        self.assertEqual((joined.bottom, joined.prices, joined.lacks, joined.value), (12, [3, 6], [12, 9], 9))

    def test_nothing_is_proved_that_is_not_so(self):
        source = random.Random(55)
        for _ in range(400):
            use = some_hard_use(source)
            limit = source.choice((1, 2, 3, 4, 5, 11, source.randint(1, 600)))
            greatest = sum(find_deal(use, limit))
            known = some_prices(source, use, source.randint(1, 3))
            for less in (1, 2, 3):
                self.assertFalse(is_greatest(use, limit, greatest - less, known), (use, limit))

    def test_what_the_value_alone_proves(self):
        source = random.Random(56)
        for _ in range(60):
            use = some_use(source)
            limit = source.randint(1, 600)
            most = floor_of(times(number_of(use), (limit, 1)))
            self.assertTrue(is_greatest(use, limit, most, some_prices(source, use, 2)))

    def test_what_remainders_prove(self):
        source = random.Random(57)
        for many, steps, limit, greatest in (
            (12, (0, 2, 4, 5, 8), 599, 1436), (12, (0, 1, 3, 4, 5, 7, 9), 457, 782), (10, (0, 1, 3, 4, 5, 6), 599, 997),
            (11, (0, 1, 2, 4, 7), 599, 1316), (7, (0, 1, 3), 301, 701), (8, (0, 1, 3), 599, 1596),
        ):
            use = turned_circle(many, steps)
            self.assertGreater(floor_of(times(number_of(use), (limit, 1))), greatest)
            known = some_prices(source, use, 6)
            self.assertTrue(is_greatest(use, limit, greatest, known))
            self.assertFalse(is_greatest(use, limit, greatest - 1, known))

    def test_two_triangles_apart(self):
        # Each alone can deal at most half of what is odd, rounded down.
        use = ring(3) + tuple([tuple([outcome + 3 for outcome in heard]) for heard in ring(3)])
        known = some_prices(random.Random(58), use, 2)
        self.assertTrue(is_greatest(use, 599, 1796, known))
        self.assertFalse(is_greatest(use, 599, 1795, known))
        self.assertFalse(is_greatest(use, 600, 1799, known))
        self.assertTrue(is_greatest(use, 600, 1800, known))

    def test_lacks_are_counted(self):
        # A word that costs more than it brings may make up for a remainder, at the price of its lack.
        for use in (RING + ((0, 1, 2),), each_misses_one(4) + ((0, 1, 2, 3),), ring(3) + ((0, 1, 2),)):
            for limit in range(1, 8):
                greatest = slow_sum(use, limit)
                known = some_prices(random.Random(limit), use, 3)
                self.assertFalse(is_greatest(use, limit, greatest - 1, known))


class RemainderTest(HeldTest):
    def test_stepped_basis(self):
        source = random.Random(15)
        for _ in range(100):
            length = source.randint(1, 4)
            vectors = [[source.randint(-4, 4) for _ in range(length)] for _ in range(source.randint(0, 4))]
            basis = stepped_basis(vectors, length)
            for place, lead in basis:
                self.assertGreater(lead[place], 0)
                self.assertFalse(any(lead[:place]))
            for vector in vectors:
                self.assertFalse(any(remainder_by(basis, vector)))
            one = [source.randint(-9, 9) for _ in range(length)]
            other = list(one)
            for vector in vectors:
                many = source.randint(-3, 3)
                other = [a + many * b for a, b in zip(other, vector)]
            self.assertEqual(remainder_by(basis, one), remainder_by(basis, other))

    def test_no_whole_sum_is_told_that_is_none(self):
        vectors = [[2, 0, 4], [0, 3, 3], [4, 3, 11]]
        basis = stepped_basis(vectors, 3)
        sums = {
            tuple(sum(many * vector[at] for many, vector in zip(times_each, vectors)) for at in range(3))
            for times_each in itertools.product(range(-6, 7), repeat=3)
        }
        for vector in itertools.product(range(-4, 5), repeat=3):
            self.assertEqual(not any(remainder_by(basis, list(vector))), vector in sums, vector)
