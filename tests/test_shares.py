import random
from fractions import Fraction

from farheld.channels import Channel, beside
from farheld.ratios import HALF, ONE, ZERO, compare, make_ratio, times
from farheld.shares import Share, find_share, number_of, number_of_uses, share_fault
from tests.helpers import DEAD, RING, HeldTest, as_lists, clean_use, each_misses_one, ring, whole

LATER_RING = ring(7)


def some_use(source, words=None, outcomes=None):
    words = words or source.randint(1, 12)
    outcomes = outcomes or source.randint(1, 12)
    chance = source.choice((0.2, 0.4, 0.6, 0.9))
    rows = []
    for _ in range(words):
        heard = [outcome for outcome in range(outcomes) if source.random() < chance]
        rows.append(tuple(heard or [source.randrange(outcomes)]))
    return tuple(rows)


class ShareTest(HeldTest):
    def found(self, use):
        share = find_share(use)
        self.assertIsNone(share_fault(use, share))
        self.are_tuples((share.mixture, share.weights))
        self.assertEqual(times(share.share, share.number), ONE)
        self.assertEqual(number_of(use), share.number)
        self.assertEqual(find_share(as_lists(use, False)).share, share.share)
        return share

    def test_told_shares(self):
        for use, number in (
            (DEAD, ONE), (((0,),), ONE), (((3,),), ONE), (((0, 11), (11,)), ONE), (RING, (5, 2)), (LATER_RING, (7, 2)),
            (ring(3), (3, 2)), (ring(11), (11, 2)), (((0,), (1,), (0, 1)), (2, 1)), (((2,), (5,)), (2, 1)),
            (((0, 1), (1, 2), (0, 2), (3,)), (5, 2)),
        ):
            self.assertEqual(self.found(use).number, number, use)
        for many in range(1, 13):
            self.assertEqual(self.found(clean_use(many)).number, (many, 1))
        for many in range(2, 13):
            self.assertEqual(self.found(each_misses_one(many)).number, make_ratio(many, many - 1))
            self.assertEqual(self.found(((*range(many),),) * many).number, ONE)

    def test_all_kinds_and_bounds(self):
        source = random.Random(7)
        kinds = {"dead": 0, "hazy": 0, "solid": 0}
        for _ in range(250):
            use = some_use(source)
            number = self.found(use).number
            kind = Channel(12, [use]).kind_at(0)
            kinds[kind] += 1
            self.assertEqual(number == ONE, kind == "dead")
            self.assertTrue(kind != "solid" or compare(number, (2, 1)) >= 0)
            self.assertLessEqual(compare(number, (len(use), 1)), 0)
            self.assertLessEqual(compare(number, (len(set(sum(use, ()))), 1)), 0)
        self.assertTrue(all(kinds.values()), kinds)

    def test_names_and_dominated_words_do_not_matter(self):
        source = random.Random(8)
        for _ in range(60):
            channel = Channel(12, [some_use(source)])
            number = number_of(channel.table[0])
            self.assertEqual(number_of([channel.heard(0, word) for word in channel.undominated(0)]), number)
            words, outcomes = list(range(channel.words)), list(range(12))
            source.shuffle(words)
            source.shuffle(outcomes)
            self.assertEqual(number_of(channel.renamed(words, outcomes).table[0]), number)

    def test_an_outcome_more_never_raises_it(self):
        source = random.Random(9)
        for _ in range(60):
            use = some_use(source)
            word = source.randrange(len(use))
            more = tuple(sorted(set(use[word]) | {source.randrange(12)}))
            self.assertLessEqual(compare(number_of(use[:word] + (more,) + use[word + 1:]), number_of(use)), 0)

    def test_side_by_side_numbers_multiply(self):
        source = random.Random(10)
        for _ in range(60):
            one = Channel(3, [some_use(source, source.randint(1, 3), 3)])
            other = Channel(4, [some_use(source, source.randint(1, 4), 4)])
            made = beside(one, other)
            self.assertEqual(number_of(made.table[0]), times(number_of(one.table[0]), number_of(other.table[0])))

    def test_number_of_uses(self):
        self.assertEqual(number_of_uses(()), ONE)
        self.assertEqual(number_of_uses([RING, DEAD, clean_use(3)]), (15, 2))
        self.assertEqual(number_of_uses((RING,) * 3), (125, 8))


class ShareFaultTest(HeldTest):
    use = ((0, 1), (1, 2), (0, 2))

    def fault(self, **changes):
        told = dict(share=(2, 3), number=(3, 2), mixture=((1, 3),) * 3, weights=((1, 3),) * 3)
        told.update(changes)
        return share_fault(self.use, Share(**told))

    def test_right(self):
        self.assertIsNone(self.fault())

    def test_mixture_and_weights(self):
        wrong = (
            None, 3, "abc", [(1, 3)] * 3, ((1, 3),) * 2, ((1, 3),) * 4, ((1, 3), (1, 3), (1, 2)), ((1, 3), (1, 3), [1, 3]),
            ((2, 6), (1, 3), (1, 3)), ((-1, 1), (1, 1), (1, 1)), ((1, 3), (1, 3), None), (1, 3), whole(0, 0, 0), (),
        )
        for thing in wrong:
            self.assertEqual(self.fault(mixture=thing, weights=None, share=None, number=None), ("mixture", None), thing)
            self.assertEqual(self.fault(weights=thing, share=None, number=None), ("weights", None), thing)

    def test_share(self):
        for thing in (None, 1, "2/3", [2, 3], (4, 6), ZERO, (-2, 3), True):
            self.assertEqual(self.fault(share=thing, number=None), ("share", None))

    def test_above_and_below(self):
        self.assertEqual(self.fault(share=(3, 5)), ("above", 0))
        self.assertEqual(self.fault(mixture=whole(0, 1, 0)), ("above", 1))
        self.assertEqual(self.fault(share=(3, 4)), ("below", 0))
        self.assertEqual(self.fault(weights=whole(1, 0, 0)), ("below", 1))
        self.assertEqual(self.fault(weights=((1, 2), HALF, ZERO)), ("below", 1))

    def test_number(self):
        for thing in (None, 1.5, [3, 2], (6, 4), (2, 3), True, (3.0, 2)):
            self.assertEqual(self.fault(number=thing), ("number", None))
        whole_share = Share((1, 2), (2, True), (HALF, HALF), (HALF, HALF))
        self.assertEqual(share_fault(clean_use(2), whole_share), ("number", None))

    def test_other_shares_that_are_right(self):
        use = ((0,), (0,), (2,), (0, 2))
        weights = (HALF, ZERO, HALF)
        for part in range(5):
            mixture = (make_ratio(part, 8), make_ratio(4 - part, 8), HALF, ZERO)
            self.assertIsNone(share_fault(use, Share(HALF, (2, 1), mixture, weights)))
        self.assertEqual(share_fault(use, Share(HALF, (2, 1), (HALF, ZERO, ZERO, HALF), weights)), ("above", 0))

    def test_equality_of_results(self):
        told = dict(share=1, number=2, mixture=3, weights=[4])
        self.assertTrue(Share(**told) == Share(1, 2, 3, [4]))
        for name in told:
            self.assertTrue(Share(**told) != Share(**dict(told, **{name: 9})))
        self.assertFalse(Share(**told) == None)  # noqa: E711
        self.assertEqual(Fraction(*find_share(RING).share), Fraction(2, 5))
