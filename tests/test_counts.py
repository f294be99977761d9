import itertools
import random
import time

from farheld.channels import Channel, beside
from farheld.counts import MOST, count_messages, counts_behind, largest_deal, list_size, periods_needed
from farheld.errors import BadBase, CountFull
from farheld.ratios import ONE, compare, floor_of, make_ratio, plus, power_of, times
from farheld.shares import number_of, number_of_uses
from tests.helpers import DEAD, RING, HeldTest, as_lists, clean_use, each_misses_one, ring
from tests.test_shares import some_use

# In each word and each outcome five of twelve stand in a circle; branching alone takes long here.
CIRCLE = tuple([tuple(sorted((word + step) % 12 for step in (0, 2, 4, 5, 8))) for word in range(12)])


def turned_circle(many, steps):
    return tuple([tuple(sorted((word + step) % many for step in steps)) for word in range(many)])


def sum_by_trying(use, limit):
    """Return the greatest sum of a deal by trying all deals."""
    best = 0
    for deal in itertools.product(range(limit + 1), repeat=len(use)):
        if is_deal(use, limit, deal):
            best = max(best, sum(deal))
    return best


def is_deal(use, limit, deal):
    return all(
        sum(many for heard, many in zip(use, deal) if outcome in heard) <= limit for outcome in range(12)
    ) and all(type(many) is int and many >= 0 for many in deal)


def can_tell(uses, many, start):
    """Tell by trying all ways whether so many messages can be told."""
    if not uses:
        return many <= start
    for words in itertools.combinations_with_replacement(range(len(uses[0])), many):
        sizes = {sum(outcome in uses[0][word] for word in words) for outcome in range(12)}
        if all(can_tell(uses[1:], size, start) for size in sizes):
            return True
    return False


class DealTest(HeldTest):
    def dealt(self, use, limit):
        begun = time.process_time()
        deal = largest_deal(use, limit)
        self.assertLess(time.process_time() - begun, 2)
        self.assertIsInstance(deal, tuple)
        self.assertEqual(len(deal), len(use))
        self.assertTrue(is_deal(use, limit, deal))
        return sum(deal)

    def test_against_all_deals(self):
        source = random.Random(11)
        for _ in range(120):
            words = source.randint(1, 5)
            use = some_use(source, words, source.randint(1, 6))
            limit = source.randint(0, (9, 9, 6, 4, 3)[words - 1])
            self.assertEqual(self.dealt(use, limit), sum_by_trying(use, limit), (use, limit))
            self.assertEqual(sum(largest_deal(as_lists(use, False), limit)), self.dealt(use, limit))

    def test_limit_1_asks_for_words_without_common_outcomes(self):
        source = random.Random(12)
        for _ in range(60):
            use = some_use(source, source.randint(6, 12))
            best = 0
            for mask in range(1 << len(use)):
                heard = [outcome for word in range(len(use)) if mask >> word & 1 for outcome in use[word]]
                if len(heard) == len(set(heard)):
                    best = max(best, bin(mask).count("1"))
            self.assertEqual(self.dealt(use, 1), best)

    def test_rings_at_all_limits(self):
        for words in (3, 5, 7, 9, 11):
            for limit in (0, 1, 2, 3, 11, 257, 599, 600):
                self.assertEqual(self.dealt(ring(words), limit), words * limit // 2)

    def test_each_misses_one_and_others(self):
        for limit in (0, 1, 10, 11, 12, 59, 597, 599, 600):
            self.assertEqual(self.dealt(each_misses_one(12), limit), 12 * limit // 11)
            self.assertEqual(self.dealt(clean_use(12), limit), 12 * limit)
            self.assertEqual(self.dealt(DEAD, limit), limit)
            self.assertEqual(self.dealt(((11,),), limit), limit)

    def test_bounds_at_all_limits(self):
        source = random.Random(13)
        for _ in range(40):
            use = some_use(source, 12, 12)
            number = number_of(use)
            limit = source.randint(0, 599)
            total, more = self.dealt(use, limit), self.dealt(use, limit + 1)
            self.assertGreaterEqual(total, limit)
            self.assertGreaterEqual(more, total + 1)
            most = times(number, (limit, 1))
            self.assertLessEqual(compare((total, 1), most), 0)
            self.assertGreater(compare((total + 12, 1), most), 0)

    def test_where_the_bound_of_the_problem_is_far_off(self):
        # In twelve parts the loss behind these limits comes back every five.
        for limit, total in ((1, 1), (4, 8), (9, 20), (599, 1436), (600, 1440)):
            self.assertEqual(self.dealt(CIRCLE, limit), total)
        self.assertEqual(sum_by_trying(CIRCLE, 1), 1)
        self.assertEqual(self.dealt(turned_circle(12, (0, 1, 3, 4, 5, 7, 9)), 457), 782)
        self.assertEqual(self.dealt(turned_circle(10, (0, 1, 3, 4, 5, 6)), 599), 997)
        self.assertEqual(self.dealt(turned_circle(11, (0, 1, 2, 4, 7)), 599), 1316)

    def test_all_circles(self):
        source = random.Random(14)
        for many in range(3, 13):
            for _ in range(12):
                use = turned_circle(many, source.sample(range(many), source.randint(1, many)))
                small, great = source.randint(1, 40), source.randint(300, 560)
                # Deals for two limits are together one for their sum.
                self.assertGreaterEqual(self.dealt(use, small + great), self.dealt(use, small) + self.dealt(use, great))
                self.assertEqual(self.dealt(use, 0), 0)

    def test_triangles_that_hang_together(self):
        use = ((0, 1, 6, 8), (0, 1, 11), (1, 2, 7), (1, 2, 6), (0, 2, 11), (0, 2, 7), (3, 4, 7, 9), (3, 4),
               (4, 5, 8, 9, 10), (4, 5, 7), (3, 5, 6, 8, 11), (3, 5, 6, 8, 9, 10))
        self.assertEqual([self.dealt(use, limit) for limit in (1, 2, 598, 599)], [2, 6, 1794, 1796])


class CountTest(HeldTest):
    def test_told_counts(self):
        self.assertEqual(MOST, 600)
        self.assertEqual(count_messages([]), 1)
        self.assertEqual((count_messages((), 600), counts_behind((), 600)), (600, (600,)))
        self.assertEqual(counts_behind([RING] * 4), (1, 2, 5, 12, 30))
        self.assertEqual(counts_behind([clean_use(2), DEAD, RING], start=3), (3, 7, 7, 14))
        self.assertEqual(count_messages([ring(3)] * 64), 1)
        self.assertEqual(count_messages([ring(3)] * 64, 2), 600)
        self.assertEqual(count_messages([DEAD] * 64, 599), 599)
        self.assertEqual(counts_behind([clean_use(12)] * 64)[:5], (1, 12, 144, 600, 600))
        self.assertEqual(count_messages([RING], 600), 600)
        self.are_tuples(counts_behind([RING]))

    def test_against_all_ways(self):
        source = random.Random(16)
        for _ in range(40):
            uses = [some_use(source, source.randint(1, 3), source.randint(1, 4)) for _ in range(source.randint(0, 3))]
            start = source.randint(1, 2)
            many = count_messages(uses, start)
            if many <= 8:
                self.assertTrue(can_tell(uses, many, start), (uses, start))
                self.assertFalse(can_tell(uses, many + 1, start), (uses, start))

    def test_each_count_is_the_greatest_sum(self):
        source = random.Random(17)
        for _ in range(40):
            uses = [some_use(source) for _ in range(source.randint(1, 8))]
            start = source.choice((1, 2, 5, 50, 599, 600))
            told = counts_behind(as_lists(uses, False), start)
            self.assertEqual(len(told), len(uses) + 1)
            for use, behind, count in zip(uses[::-1], told, told[1:]):
                self.assertEqual(count, min(600, sum(largest_deal(use, behind))))

    def test_64_unlike_uses(self):
        source = random.Random(18)
        for words in ((0, 3, 4, 6, 8), (0, 1, 3, 4, 5, 7, 9), (0, 1, 2, 3, 4, 5, 6, 7, 8, 9, 10)):
            uses = []
            for _ in range(64):
                order = source.sample(range(12), 12)
                uses.append([sorted(order[outcome] for outcome in heard) for heard in turned_circle(12, words)])
            begun = time.process_time()
            self.assertEqual(count_messages(uses, 11), 600)
            self.assertLess(time.process_time() - begun, 4)

    def test_dead_uses_dominated_words_and_names_do_not_matter(self):
        source = random.Random(19)
        for _ in range(30):
            uses = [some_use(source) for _ in range(3)]
            told = count_messages(uses, 2)
            self.assertEqual(count_messages([DEAD, uses[0], DEAD, uses[1], uses[2], DEAD], 2), told)
            changed = []
            for use in uses:
                channel = Channel(12, [use])
                outcomes = source.sample(range(12), 12)
                named = channel.renamed(source.sample(range(channel.words), channel.words), outcomes)
                changed.append([named.heard(0, word) for word in named.undominated(0)])
            self.assertEqual(count_messages(changed, 2), told)

    def test_side_by_side(self):
        source = random.Random(20)
        for _ in range(30):
            ones = [some_use(source, 3, 3) for _ in range(2)]
            others = [some_use(source, 4, 4) for _ in range(2)]
            both = [beside(Channel(3, [one]), Channel(4, [other])).table[0] for one, other in zip(ones, others)]
            least = count_messages(ones, 2) * count_messages(others, 3)
            if least <= 600:
                self.assertGreaterEqual(count_messages(both, 6), least)


class ListSizeTest(HeldTest):
    def test_told_sizes(self):
        self.assertIsNone(list_size([]))
        self.assertIsNone(list_size([DEAD, ((0,),)]))
        for words in range(2, 13):
            self.assertEqual(list_size([each_misses_one(words)]), words - 1)
            self.assertEqual(list_size((DEAD, each_misses_one(words), each_misses_one(12))), words - 1)
        self.assertEqual([list_size([use]) for use in (RING, clean_use(2), ring(3))], [1, 1, 2])

    def test_it_is_the_least_start_that_grows(self):
        source = random.Random(21)
        for _ in range(120):
            uses = [some_use(source) for _ in range(source.randint(1, 3))]
            size = list_size(uses)
            kinds = [Channel(12, [use]).kind_at(0) for use in uses]
            growing = [start for start in range(1, 13) if count_messages(uses, start) > start]
            self.assertEqual(size, growing[0] if growing else None)
            self.assertEqual(size is None, set(kinds) == {"dead"})
            self.assertEqual(size == 1, "solid" in kinds)
            alive = [len(use) for use, kind in zip(uses, kinds) if kind != "dead"]
            self.assertTrue(size is None or size <= min(alive) - 1)
            self.assertTrue(size is None or growing == list(range(size, 13)))

    def test_64_uses_of_12_words(self):
        begun = time.process_time()
        source = random.Random(22)
        uses = [[source.sample(range(12), source.randint(7, 11)) for _ in range(12)] for _ in range(64)]
        self.assertIsNotNone(list_size(uses))
        self.assertLess(time.process_time() - begun, 3)


class PeriodsTest(HeldTest):
    def by_trying(self, uses, base, start):
        for tried in range(1, 80):
            count = count_messages(list(uses) * tried if len(uses) * tried <= 64 else [], start)
            if len(uses) * tried > 64:
                return "later"
            if compare((count, 1), times((start, 1), power_of(base, tried))) > 0:
                return tried
            if count == 600:
                return ("full", tried)

    def test_told_periods(self):
        self.assertEqual(periods_needed([RING], (9, 4)), 3)
        self.assertEqual(periods_needed([RING], ONE), 1)
        # One period tells just 2, and what is told must be more.
        self.assertEqual(periods_needed([RING], (2, 1)), 2)
        self.assertEqual(periods_needed([ring(3)], ONE, 2), 1)
        self.assertEqual(periods_needed([DEAD, clean_use(2)], (199, 100)), 1)
        self.assertEqual(periods_needed([each_misses_one(12)], ONE, 11), 1)

    def test_none(self):
        for uses, base, start in (
            ([RING], (5, 2), 1), ([RING], (3, 1), 7), ([DEAD], ONE, 5), ([ring(3)], ONE, 1), ([ring(3)], (3, 2), 2),
            ([RING, RING], (25, 4), 1), ([each_misses_one(12)], ONE, 10), ([DEAD, DEAD], (2, 1), 600),
        ):
            self.assertIsNone(periods_needed(uses, base, start))

    def test_full(self):
        self.raises(CountFull, {"tried": 1}, periods_needed, [RING], (3, 2), 600)
        self.raises(CountFull, {"tried": 8}, periods_needed, [RING], (249, 100))
        self.raises(CountFull, {"tried": 1}, periods_needed, [clean_use(12)], (11, 1), 60)
        self.assertEqual(periods_needed([clean_use(12)], (11, 1), 50), 1)
        near = make_ratio(12 * 10 ** 290 - 1, 10 ** 290)
        self.assertEqual(periods_needed([clean_use(12)], near, 50), 1)
        self.raises(CountFull, {"tried": 1}, periods_needed, [clean_use(12)], near, 51)

    def test_bad_base(self):
        for base in ((0, 1), (1, 2), (-3, 1), (10 ** 299 - 1, 10 ** 299)):
            self.raises(BadBase, {}, periods_needed, [DEAD], base)
        self.raises(BadBase, {}, periods_needed, uses=[RING], base=(1, 3), start=2)

    def test_against_trying(self):
        source = random.Random(23)
        tried = 0
        for _ in range(80):
            uses = [some_use(source, source.randint(1, 6)) for _ in range(source.randint(1, 3))]
            number = number_of_uses(uses)
            start = source.choice((1, 2, 3, 100, 600))
            part = make_ratio(source.randint(0, 12), 12)
            base = plus(ONE, times(part, plus(number, (-1, 1))))
            try:
                told = periods_needed(uses, base, start)
            except CountFull as error:
                told = ("full", error.tried)
            size = list_size(uses)
            if size is None or start < size or compare(base, number) >= 0:
                self.assertIsNone(told)
                continue
            tried += 1
            self.assertIn(self.by_trying(uses, base, start), (told, "later"))
        self.assertGreater(tried, 30)

    def test_many_slow_uses(self):
        source = random.Random(24)
        uses = []
        for _ in range(64):
            order = source.sample(range(12), 12)
            uses.append([sorted(order[outcome] for outcome in heard) for heard in each_misses_one(12)])
        uses[5] = each_misses_one(3)
        begun = time.process_time()
        product = number_of_uses(uses)
        self.assertRaises(CountFull, periods_needed, uses, make_ratio(floor_of(product) - 1, 1), 2)
        self.assertLess(time.process_time() - begun, 6)
