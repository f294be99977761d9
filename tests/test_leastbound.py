import random
import time
from fractions import Fraction

from farheld.channels import Channel
from farheld.errors import BadBound, BadLate, BadTicks, NotLink
from farheld.leastbound import (
    Least, check_link, fewest_words, find_least, greatest_late, late_lengths, link_numbers, told_lengths,
)
from farheld.plants import Plant
from farheld.ratios import compare, make_ratio
from farheld.worlds import Sensor, World
from tests.helpers import NO_RATIOS, HeldTest, clean_use, clean_world, plain_plant, whole


def link(factors, uses, push=(1, 1), start=(0, 1), outcomes=12):
    return World(Plant([factors], [push], [start]), [Sensor((0,), Channel(outcomes, uses))])


def some_link(source, words=6, start=9):
    """Return a link of period 1 to 4 with factors of either sign."""
    period = source.randint(1, 4)
    factors = [make_ratio(source.choice((-5, -3, -2, -1, 1, 2, 3, 4)), source.choice((1, 2, 3))) for _ in range(period)]
    outcomes, many = source.randint(1, words), source.randint(1, words)
    uses = [[(source.randrange(outcomes),) for _ in range(many)] for _ in range(period)]
    push = make_ratio(source.randint(1, 3), source.randint(1, 3))
    return link(factors, uses, push, make_ratio(source.randint(0, start), source.randint(1, 3)), outcomes)


class Facts:
    """The lengths of a link by the plain words of the document."""

    def __init__(self, world):
        self.sizes = [abs(Fraction(*factor)) for factor in world.plant.factors[0]]
        self.numbers = [len({heard[0] for heard in row}) for row in world.sensors[0].channel.table]
        self.push, self.start = Fraction(*world.plant.pushes[0]), Fraction(*world.plant.starts[0])
        self.period = world.period

    def told(self, ticks):
        lengths = [self.start]
        for tick in range(ticks):
            phase = tick % self.period
            lengths.append(self.sizes[phase] * lengths[-1] / self.numbers[phase] + self.push)
        return lengths

    def late(self, late, ticks):
        told = self.told(ticks)
        lengths = []
        for tick in range(ticks):
            back = min(late, tick)
            length = told[tick - back]
            for at in range(tick - back, tick):
                length = self.sizes[at % self.period] * length + self.push
            lengths.append(length)
        return lengths

    def rate(self):
        rate = Fraction(1)
        for size, number in zip(self.sizes, self.numbers):
            rate = rate * size / number
        return rate


def fraction_of(ratio):
    return Fraction(*ratio)


class LinkTest(HeldTest):
    def calls(self, world):
        """Return all calls that must refuse a world that is no link, whatever else they are given."""
        return [
            (check_link, (world,)), (link_numbers, (world,)), (told_lengths, (world, -1)), (late_lengths, (world, 9, -1)),
            (find_least, (world, 9)), (find_least, (world,)), (greatest_late, (world, None)),
        ]

    def test_links(self):
        for world, numbers in (
            (clean_world((3, 2), 2, 1), (2,)), (clean_world((3, 2), 12, 1, [()]), (12,)),
            (link(whole(1, -2, 3, 4), [((5,), (5,)), ((0,), (1,)), ((2,), (1,)), ((3,), (3,))]), (1, 2, 2, 1)),
            (link(whole(1), [((7,),)]), (1,)), (link(whole(2), [((1,), (4,), (1,), (0,))]), (3,)),
        ):
            self.assertIsNone(check_link(world))
            self.assertEqual(link_numbers(world), numbers)
            self.are_tuples(link_numbers(world))

    def test_what_is_no_link(self):
        two = World(plain_plant((2, 1), (2, 1)), [Sensor((0,), Channel.clean(2))])
        hazy = ((0,), (0, 1))
        for world, what in (
            (two, "mode"), (World(plain_plant((2, 1), (2, 1)), ()), "mode"), (two.with_lots([(0,)]), "mode"),
            (clean_world((2, 1), 2, 0), "sensor"), (clean_world((2, 1), 2, 2), "sensor"), (clean_world((2, 1), 2, 2, [(0,)]), "sensor"),
            (clean_world((2, 1), 2, 1, [(0,)]), "lot"), (link(whole(2), [hazy]).with_lots([(0,)]), "lot"),
            (link(whole(2), [hazy]), "channel"), (link(whole(2, 1), [((0,), (1,)), hazy]), "channel"),
        ):
            for call, arguments in self.calls(world):
                self.raises(NotLink, {"what": what}, call, *arguments)

    def test_wrong_lateness_and_ticks(self):
        world = clean_world((3, 2), 2, 1)
        for late in (-1, 4, None, True, False, "1", (1, 1), 1.0):
            self.raises(BadLate, {"late": late}, late_lengths, world, late, None)
            self.raises(BadLate, {"late": late}, find_least, world, late)
        for ticks in (-1, 201, 1000, None, True, False, "1", [1], 2.0):
            self.raises(BadTicks, {"ticks": ticks}, told_lengths, world, ticks)
            self.raises(BadTicks, {"ticks": ticks}, late_lengths, world, 3, ticks)
        for ticks in (0, 1, 200):
            self.assertEqual(len(told_lengths(world, ticks)), ticks)
            for late in range(4):
                self.assertEqual(len(late_lengths(world, late, ticks)), ticks)

    def test_wrong_bounds(self):
        world, plant = clean_world((3, 2), 2, 1), plain_plant((3, 2))
        for bound in NO_RATIOS + ((0, 1), (-1, 2)):
            self.raises(BadBound, {"bound": bound}, greatest_late, world, bound)
            self.raises(BadBound, {"bound": bound}, fewest_words, plant, bound)
            self.raises(NotLink, {"what": "mode"}, fewest_words, plain_plant((1, 1), (1, 2)), bound)
        self.raises(NotLink, {"what": "mode"}, fewest_words, plain_plant((1, 1), (1, 2), (1, 2)), (1, 1))


class LengthsTest(HeldTest):
    def test_lengths_by_hand(self):
        world = clean_world((3, 2), 2, 1)
        self.assertEqual(told_lengths(world, 4), ((0, 1), (1, 1), (7, 4), (37, 16)))
        self.assertEqual(late_lengths(world, 0, 4), told_lengths(world, 4))
        self.assertEqual(late_lengths(world, 1, 4), ((0, 1), (1, 1), (5, 2), (29, 8)))
        self.assertEqual(late_lengths(world, 2, 4), ((0, 1), (1, 1), (5, 2), (19, 4)))
        started = link([(-4, 1), (1, 2)], [clean_use(2), clean_use(2)], (1, 3), (6, 1))
        self.assertEqual(told_lengths(started, 4), ((6, 1), (37, 3), (41, 12), (43, 6)))
        self.assertEqual(late_lengths(started, 1, 4), ((6, 1), (73, 3), (13, 2), (14, 1)))

    def test_lengths_of_drawn_links(self):
        source = random.Random(1)
        for _ in range(60):
            world = some_link(source)
            facts = Facts(world)
            self.assertEqual([fraction_of(one) for one in told_lengths(world, 20)], facts.told(20)[:20])
            for late in range(4):
                told = late_lengths(world, late, 20)
                self.are_tuples(told)
                self.assertEqual([fraction_of(one) for one in told], facts.late(late, 20))

    def test_200_ticks_in_time(self):
        plant = Plant([[(99999989, 50000017), (-12345678901, 98765432101)]], [(1, 3)], [(7, 9)])
        world = World(plant, [Sensor((0,), Channel.clean(3, 2))])
        begun = time.time()
        for late in range(4):
            late_lengths(world, late, 200)
        self.assertLess(time.time() - begun, 2)


class LeastTest(HeldTest):
    def test_the_bounds_that_are_told(self):
        world = clean_world((3, 2), 2, 1)
        self.assertEqual(find_least(world), Least((4, 1), whole(4), whole(4), False))
        self.assertEqual(find_least(world, 1), Least((7, 1), whole(4), whole(4), False))
        self.assertEqual(find_least(world, late=2), Least((23, 2), whole(4), whole(4), False))
        self.assertEqual(find_least(world, 3), Least((73, 4), whole(4), whole(4), False))

    def test_reached(self):
        for start, bound, lengths, reached in (((3, 1), 4, 4, False), ((4, 1), 4, 4, True), ((5, 1), 5, 5, True)):
            world = link([(-3, 2)], [clean_use(2)], (1, 1), start)
            self.assertEqual(find_least(world), Least((bound, 1), whole(lengths), whole(4), reached))
        # The start alone passes what comes later, as nothing is told ahead of tick 3.
        world = link([(1, 4)], [clean_use(2)], (1, 1), (100, 1))
        for late in range(4):
            self.assertEqual(find_least(world, late), Least((100, 1), whole(100), ((8, 7),), True))
        # With a factor of 1/2 and no start the greatest late length is met by no tick.
        self.assertFalse(find_least(link([(1, 2)], [((0,), (0,))]), 2).reached)

    def test_the_bound_of_a_tick_ahead_of_all_that_is_told(self):
        # Behind the great factor of phase 0 only the late ticks up to 3 are that long.
        world = link([(30, 1), (1, 60)], [clean_use(2), clean_use(2)], (1, 1), (10, 1))
        facts = Facts(world)
        for late in range(4):
            self.assertEqual(fraction_of(find_least(world, late).bound), max(facts.late(late, 60)))
            self.assertTrue(find_least(world, late).reached)
        self.assertEqual(find_least(world, 1).bound, (301, 1))

    def test_growth_below_at_and_above_the_numbers(self):
        for factors, uses, is_kept in (
            ([(2, 1)], [clean_use(2)], False), ([(199, 100)], [clean_use(2)], True), ([(-201, 100)], [clean_use(2)], False),
            ([(1, 1)], [((0,), (0,))], False), ([(99, 100)], [((0,),)], True), ([(6, 1), (1, 1)], [clean_use(2)] * 2, False),
            ([(6, 1), (1, 2)], [clean_use(2)] * 2, True), ([(4, 1), (1, 1)], [clean_use(2)] * 2, False),
        ):
            for late in range(4):
                self.assertEqual(find_least(link(factors, uses), late) is not None, is_kept)
            self.assertEqual(greatest_late(link(factors, uses), (10 ** 9, 1)), 3 if is_kept else None)

    def test_drawn_links(self):
        source = random.Random(2)
        reached = kept = 0
        for _ in range(250):
            world, late = some_link(source), source.randint(0, 3)
            facts, least = Facts(world), find_least(world, late)
            if facts.rate() >= 1:
                self.assertIsNone(least)
                continue
            kept += 1
            self.are_tuples((least.bound, least.lengths, least.limits))
            # Each limit comes back to itself behind a period.
            self.assertEqual((len(least.limits), len(least.lengths)), (facts.period, facts.period))
            for phase, limit in enumerate(least.limits):
                length = fraction_of(limit)
                for at in range(phase, phase + facts.period):
                    length = facts.sizes[at % facts.period] * length / facts.numbers[at % facts.period] + facts.push
                self.assertEqual(length, fraction_of(limit))
                self.assertEqual(fraction_of(least.lengths[phase]), max(length, facts.told(phase)[phase]))
            lengths, bound = facts.late(late, 60), fraction_of(least.bound)
            self.assertLessEqual(max(lengths), bound)
            self.assertEqual(bound in lengths, least.reached)
            reached += least.reached
            if not least.reached:
                self.check_limit(facts, least, late, bound)
        self.assertGreater(min(reached, kept - reached), 20)

    def check_limit(self, facts, least, late, bound):
        """Check that a bound that no tick reaches is what late lengths come near to."""
        near = []
        for phase, limit in enumerate(least.limits):
            length = fraction_of(limit)
            for at in range(phase, phase + late):
                length = facts.sizes[at % facts.period] * length + facts.push
            near.append(length)
        self.assertEqual(max(near), bound)

    def test_lateness_and_words_for_a_bound(self):
        world = clean_world((3, 2), 2, 1)
        for bound, late in (((399, 100), None), ((4, 1), 0), ((699, 100), 0), ((7, 1), 1), ((23, 2), 2), ((73, 4), 3), ((72, 5), 2), ((100, 1), 3)):
            self.assertEqual(greatest_late(world, bound), late)
        plant = plain_plant((3, 2))
        for bound, words in (((1, 1), None), ((8, 7), 12), ((799, 700), None), ((4, 1), 2), ((399, 100), 3), ((2, 1), 3), ((199, 100), 4), ((10 ** 6, 1), 2)):
            self.assertEqual(fewest_words(plant, bound), words)
        self.assertEqual(fewest_words(plain_plant((1, 2)), (2, 1)), 1)
        self.assertEqual(fewest_words(plain_plant((1, 2)), (199, 100)), 2)
        self.assertEqual(fewest_words(plain_plant((1, 1)), (2, 1)), 2)
        self.assertIsNone(fewest_words(plain_plant((12, 1)), (10 ** 9, 1)))
        self.assertEqual(fewest_words(plain_plant((11, 1)), (12, 1)), 12)
        self.assertIsNone(fewest_words(plain_plant((3, 2), start=(5, 1)), (4, 1)))

    def test_drawn_searches(self):
        source = random.Random(3)
        for _ in range(60):
            world = some_link(source)
            bound = make_ratio(source.randint(1, 60), source.randint(1, 3))
            within = []
            for late in range(4):
                least = find_least(world, late)
                within.append(least is not None and compare(least.bound, bound) <= 0)
            self.assertEqual(within, sorted(within, reverse=True))
            self.assertEqual(greatest_late(world, bound), sum(within) - 1 if within[0] else None)
            words = None
            for many in range(12, 0, -1):
                least = find_least(World(world.plant, [Sensor((0,), Channel.clean(many, world.period))]))
                if least is not None and compare(least.bound, bound) <= 0:
                    words = many
            self.assertEqual(fewest_words(world.plant, bound), words)

    def test_equality(self):
        parts = ((4, 1), whole(4), whole(4), False)
        least = Least(*parts)
        self.assertTrue(least == Least(*parts))
        self.assertFalse(least != Least(*parts))
        for at in range(4):
            other = Least(*[None if place == at else worth for place, worth in enumerate(parts)])
            self.assertFalse(least == other)
            self.assertTrue(least != other)
        self.assertFalse(least == parts)
        kept = [[4], [5], [6], 1]
        self.assertEqual([vars(Least(*kept))[name] for name in ("bound", "lengths", "limits", "reached")], kept)
        self.assertIs(Least(*kept).lengths, kept[1])
        for late in range(4):
            self.assertIs(type(find_least(clean_world((3, 2), 2, 1), late).reached), bool)
