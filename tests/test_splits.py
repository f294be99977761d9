import functools
import itertools
import random
import time
from fractions import Fraction

from farheld.channels import Channel
from farheld.counts import count_messages, list_size
from farheld.errors import Barred, NoLot, TooNear
from farheld.leastcounts import least_counts
from farheld.plants import Plant
from farheld.ratios import make_ratio
from farheld.splits import (
    Split, block_growth, find_helper, find_split, is_listed, list_tasks, listing_periods, plan_splits, sensor_room,
    split_fault, start_size,
)
from farheld.verdicts import TrustBar, find_bar
from farheld.worlds import Sensor, World
from tests.helpers import (
    DEAD, NO_SEQUENCES, NO_WHOLES, HeldTest, clean_use, clean_world, each_misses_one, plain_plant, ring, whole,
)
from tests.test_counts import CIRCLE
from tests.test_shares import some_use

HAZY = ring(3)


def world_of(factors, uses, lots=(), seen=None):
    """Return a world of period 1 whose sensors see all modes, if not told otherwise."""
    sensors = []
    for at, use in enumerate(uses):
        sensors.append(Sensor(range_of(len(factors)) if seen is None else seen[at], Channel(12, [use])))
    return World(plain_plant(*factors), sensors, lots)


def range_of(many):
    return tuple(range(many))


class Facts:
    """What the document tells of a world and a guess, worked out by its plain words."""

    def __init__(self, world, guess):
        self.world, self.guess = world, guess
        self.many, self.modes = len(world.sensors), world.plant.modes
        self.checked = guess != world.lots[-1]
        self.lists = [list_size(world.uses(at, 0, world.period)) for at in range(self.many)]
        self.sizes = [1 if size is None else size for size in self.lists]
        # These are asked again for each of many counts.
        for name in ("growth", "room", "helper", "may_tell"):
            setattr(self, name, functools.lru_cache(maxsize=None)(getattr(self, name)))

    def growth(self, mode, periods):
        growth = Fraction(1)
        for top, bottom in self.world.plant.factors[mode]:
            growth *= abs(Fraction(top, bottom))
        return growth ** periods

    def room(self, sensor, periods, start=None):
        uses = self.world.uses(sensor, 0, periods * self.world.period)
        return count_messages(uses, self.sizes[sensor] if start is None else start)

    def helper(self, mode):
        for at, sensor in enumerate(self.world.sensors):
            kinds = [sensor.channel.kind_at(phase) for phase in range(self.world.period)]
            if at not in self.guess and mode in sensor.seen and "solid" in kinds:
                return at
        return None

    def may_tell(self, mode, sensor):
        if sensor in self.guess or self.lists[sensor] is None or mode not in self.world.sensors[sensor].seen:
            return False
        return self.growth(mode, 1) >= 1

    def listing(self, counts):
        """Return the listing periods, None if there are none or a listed mode has no helper."""
        due = [1] * self.many
        for mode, sensor in itertools.product(range(self.modes), range(self.many)):
            if counts[mode][sensor] > 1 and self.sizes[sensor] > 1:
                if self.helper(mode) is None:
                    return None
                due[self.helper(mode)] *= self.sizes[sensor]
        if max([0] + due) > 600:
            return None
        needed = [0]
        for sensor in range(self.many):
            needed.append(next(t for t in itertools.count() if self.room(sensor, t, 1) >= due[sensor]))
        return max(needed)

    def fit(self, counts, telling, listing, idle):
        for mode, sensor in itertools.product(range(self.modes), range(self.many)):
            if counts[mode][sensor] > 1 and not self.may_tell(mode, sensor):
                return False
        for sensor in range(self.many):
            if product(row[sensor] for row in counts) > self.room(sensor, telling):
                return False
        periods = telling + listing + self.checked + idle
        for mode in range(self.modes):
            if self.growth(mode, 1) >= 1 and product(counts[mode]) <= self.growth(mode, periods):
                return False
        return True

    def every_count(self, telling):
        ranges = []
        for mode, sensor in itertools.product(range(self.modes), range(self.many)):
            room = self.room(sensor, telling) if self.may_tell(mode, sensor) else 1
            ranges.append(range(1, room + 1))
        if product(len(one) for one in ranges) > 6000:
            return None
        flat = itertools.product(*ranges)
        return [tuple(row[mode * self.many:(mode + 1) * self.many] for mode in range(self.modes)) for row in flat]

    def least_split(self, blocks, idle):
        """Return the due split by going through all counts, None if there is none, "many" if they are too many."""
        for telling in range(1, min(blocks, 8) + 1):
            every = self.every_count(telling)
            if every is None:
                return "many"
            for counts in every:
                listing = self.listing(counts)
                if listing is None or telling + listing + self.checked + idle > min(blocks, 8):
                    continue
                if self.fit(counts, telling, listing, idle):
                    return Split(self.guess, self.checked, idle, telling, listing, counts)
        return None


def product(numbers):
    told = 1
    for number in numbers:
        told *= number
    return told


def some_split_world(source):
    period, modes = source.randint(1, 2), source.randint(1, 2)
    rows = []
    for _ in range(modes):
        rows.append([make_ratio(source.choice((-3, -1, 1, 2, 3, 4, 5)), source.choice((1, 2, 3, 4))) for _ in range(period)])
    sensors = []
    for _ in range(source.randint(1, 3)):
        words = source.randint(2, 4)
        table = [some_use(source, words, source.randint(1, 5)) for _ in range(period)]
        if source.random() < 0.5:
            table = [source.choice((each_misses_one(3), each_misses_one(4), clean_use(2), ring(4)))] * period
        sensors.append(Sensor(sorted(source.sample(range(modes), source.randint(1, modes))), Channel(12, table)))
    lots = [source.sample(range(len(sensors)), source.randint(0, 1)) for _ in range(source.randint(0, 2))]
    if source.random() < 0.1:
        sensors = [Sensor(range_of(modes), Channel.clean(2, period))] * 2 + sensors[:1]
        lots = [[0], [len(sensors) - 1]]
    return World(Plant(rows, whole(1, 1)[:modes], whole(0, 0)[:modes]), sensors, lots)


class PartsTest(HeldTest):
    def test_growth_of_blocks(self):
        world = World(Plant([[(3, 2), (-2, 1)], [(1, 2), (1, 1)]], whole(1, 1), whole(0, 0)), ())
        self.assertEqual([block_growth(world, 0, periods) for periods in range(4)], list(whole(1, 3, 9, 27)))
        self.assertEqual(block_growth(world, 1, 5), (1, 32))

    def test_start_sizes(self):
        for use, size, is_list in ((clean_use(2), 1, False), (HAZY, 2, True), (each_misses_one(6), 5, True), (DEAD, 1, False)):
            world = world_of(((2, 1),), (use,))
            self.assertEqual((start_size(world, 0), is_listed(world, 0)), (size, is_list))
        turned = World(Plant([whole(1, 1)], whole(1), whole(0)), [Sensor((0,), Channel(12, [HAZY + HAZY, each_misses_one(6)]))])
        self.assertEqual((start_size(turned, 0), is_listed(turned, 0)), (2, True))

    def test_rooms(self):
        world = world_of(((2, 1),), (clean_use(3), HAZY, DEAD, each_misses_one(12)))
        self.assertEqual([sensor_room(world, 0, periods) for periods in range(7)], [1, 3, 9, 27, 81, 243, 600])
        self.assertEqual([sensor_room(world, 1, periods) for periods in range(6)], [2, 3, 4, 6, 9, 13])
        self.assertEqual([sensor_room(world, 2, periods) for periods in (0, 1, 8)], [1, 1, 1])
        self.assertEqual([sensor_room(world, 3, periods) for periods in (0, 1)], [11, 12])

    def test_the_first_phase_comes_first(self):
        # With room for n behind it, two words let tell 2 n, the ring of five the whole part of 5 n / 2.
        two, ring_of_five = ((0,), (1,), (1,), (1,), (1,)), ring(5)
        for table, room, telling in (([two, ring_of_five], 4, 2), ([ring_of_five, two], 5, 1)):
            world = World(Plant([((21, 10), (2, 1))], whole(1), whole(0)), [Sensor((0,), Channel(5, table))])
            self.assertEqual(sensor_room(world, 0, 1), room)
            self.assertEqual(find_split(world, ()).telling, telling)

    def test_helpers(self):
        seen = ((1,), (0, 1), (0, 1), (1,))
        world = world_of(((2, 1), (2, 1)), (HAZY, clean_use(2), clean_use(2), clean_use(2)), seen=seen)
        for guess in ((), [], (0,), (3,)):
            self.assertEqual([find_helper(world, guess, mode) for mode in (0, 1)], [1, 1])
        self.assertEqual([find_helper(world, [1], mode) for mode in (0, 1)], [2, 2])
        self.assertEqual([find_helper(world, (1, 2), mode) for mode in (0, 1)], [None, 3])
        self.assertEqual([find_helper(world, (1, 2, 3), mode) for mode in (0, 1)], [None, None])

    def test_tasks(self):
        uses = (HAZY, clean_use(2), each_misses_one(4), clean_use(2))
        world = world_of(((2, 1), (2, 1)), uses, seen=((0, 1), (1,), (0, 1), (0, 1)))
        counts = [[2, 1, 3, 2], [2, 4, 1, 1]]
        self.assertEqual([list_tasks(world, (), counts, helper) for helper in range(4)], [(), ((1, 0),), (), ((0, 0), (0, 2))])
        self.assertEqual(list_tasks(world, (1,), tuple(map(tuple, counts)), 3), ((0, 0), (0, 2), (1, 0)))
        self.assertEqual(list_tasks(world, (1, 3), counts, 3), ())
        self.assertEqual(listing_periods(world, (), counts), 3)
        self.assertEqual(listing_periods(world, (1,), counts), 4)
        self.assertEqual(listing_periods(world, (1, 3), counts), 0)
        self.assertEqual(listing_periods(world, (), [[1, 1, 1, 2], [1, 4, 1, 1]]), 0)

    def test_a_product_of_600_and_one_above(self):
        # Sizes 10 and 10 and 6 make 600 by one helper; 10, 10 and 7 are too many.
        factors = ((2, 1), (2, 1), (2, 1))
        for size, periods in ((7, 6), (8, None)):
            uses = (clean_use(3), each_misses_one(11), each_misses_one(size))
            world = world_of(factors, uses)
            self.assertEqual([start_size(world, sensor) for sensor in range(3)], [1, 10, size - 1])
            self.assertEqual(listing_periods(world, (), [[1, 2, 1], [1, 2, 1], [1, 1, 2]]), periods)
            self.assertEqual(listing_periods(world, (), [[1, 2, 1], [1, 2, 1], [1, 1, 1]]), 5)
        self.assertEqual(3 ** 6, 729)


class FindTest(HeldTest):
    def test_a_plain_split(self):
        world = clean_world((3, 2), 2, 3, ((0,), (1,), (2,)))
        splits = plan_splits(world)
        self.assertEqual([split.guess for split in splits], [(0,), (1,), (2,)])
        self.assertEqual([split.checked for split in splits], [True, True, False])
        self.assertEqual([split.counts for split in splits], [((1, 2, 2),), ((2, 1, 2),), ((1, 2, 1),)])
        self.assertEqual([split.periods for split in splits], [2, 2, 1])
        self.assertEqual([split_fault(world, split) for split in splits], [None] * 3)
        for split in splits:
            self.are_tuples((split.guess, split.counts))
            self.assertEqual(find_split(world, list(split.guess)), split)
            self.assertIs(type(split.checked), bool)

    def test_idle_periods(self):
        world = clean_world((3, 2), 2, 3, ((0,), (1,), (2,)))
        splits = plan_splits(world, idle=1)
        self.assertEqual([split.idle for split in splits], [1] * 3)
        self.assertEqual([split.counts for split in splits], [((1, 2, 2),), ((2, 1, 2),), ((2, 2, 1),)])
        self.assertEqual([split.periods for split in splits], [3, 3, 2])
        self.assertEqual(find_split(world, (0,), 4, 1), splits[0])
        self.raises(TooNear, {"tried": 2}, find_split, world, (0,), 2, 1)

    def test_a_product_that_equals_the_growth_is_not_enough(self):
        for factor, counts in (((3, 1), ((4,),)), ((2999, 1000), ((3,),)), ((3001, 1000), ((4,),))):
            world = world_of((factor,), (clean_use(4),))
            split = find_split(world, ())
            self.assertEqual((split.telling, split.counts), (1, counts))
        tiny = 10 ** 250
        world = world_of(((4 * tiny - 1, tiny),), (clean_use(4),))
        self.assertEqual(find_split(world, ()).counts, ((4,),))
        self.assertIsNone(split_fault(world, Split((), False, 0, 1, 0, ((4,),))))
        world = world_of(((3 * tiny + 1, tiny),), (clean_use(4),))
        self.assertEqual(find_split(world, ()).counts, ((4,),))
        self.assertEqual(split_fault(world, Split((), False, 0, 1, 0, ((3,),))), "growth")
        world = world_of(((3, 1),), (clean_use(4),))
        self.assertEqual(split_fault(world, Split((), False, 0, 1, 0, ((3,),))), "growth")
        self.assertEqual(split_fault(world, Split((), False, 1, 1, 0, ((4,),))), "growth")

    def test_errors_in_their_order(self):
        barred = clean_world((2, 1), 2, 1)
        for thing in NO_SEQUENCES + ((0,), [0], (True,), ((),), "", [[]]):
            self.raises(NoLot, {"lot": thing}, find_split, barred, thing, 0)
        bar = find_bar(barred)
        for call in (lambda: find_split(barred, (), 0), lambda: find_split(barred, []), lambda: plan_splits(barred, 0)):
            with self.assertRaises(Barred) as caught:
                call()
            self.assertEqual(caught.exception.bar, bar)
        lots = ((0,), (1,))
        trust = clean_world((1, 1), 2, 2, lots)
        with self.assertRaises(Barred) as caught:
            plan_splits(trust)
        self.assertEqual(caught.exception.bar, TrustBar(0, (0,), (1,)))
        world = clean_world((3, 2), 2, 3, ((1,), (2,)))
        for thing in ((), [0], (1, 2), [True], (False,)):
            self.raises(NoLot, {"lot": thing}, find_split, world, thing)

    def test_blocks(self):
        world = World(plain_plant((19, 10)), [Sensor((0,), Channel.clean(2))] * 3, [[0], [1], [2]])
        self.assertEqual([split.periods for split in plan_splits(world, 3)], [2, 2, 1])
        self.raises(TooNear, {"tried": 1}, plan_splits, world, 1)
        self.raises(TooNear, {"tried": 0}, plan_splits, world, 0)
        self.assertEqual(find_split(world, (2,), 1).periods, 1)
        self.raises(TooNear, {"tried": 1}, find_split, world, (2,), 1, 1)
        # The growth is so near to the number of the only teller that eight periods are not enough.
        near = world_of(((299, 100),), (clean_use(3),))
        self.assertEqual(find_split(near, (), 1).telling, 1)
        hazy = World(plain_plant((149, 100)), [Sensor((0,), Channel(3, [HAZY])), Sensor((0,), Channel.clean(2))], [[0], [1]])
        self.assertIsNotNone(find_bar(hazy))
        ring_of_five = ((0, 1), (1, 2), (2, 3), (3, 4), (0, 4))
        near = world_of(((249, 100),), (ring_of_five,))
        for blocks in (8, 9, 10 ** 20):
            self.raises(TooNear, {"tried": blocks}, find_split, near, (), blocks)
        wide = world_of(((2, 1),), (ring_of_five,))
        self.assertEqual([find_split(wide, (), blocks).periods for blocks in (8, 9, 100)], [find_split(wide, ()).periods] * 3)

    def test_worlds_without_growing_modes_or_sensors(self):
        still = World(plain_plant((1, 2), (-1, 3)), ())
        self.assertEqual(plan_splits(still), (Split((), False, 0, 1, 0, ((), ())),))
        world = clean_world((1, 2), 2, 4, ((0, 1), (2, 3)))
        self.assertEqual([split.counts for split in plan_splits(world)], [((1, 1, 1, 1),)] * 2)
        self.assertEqual([split.periods for split in plan_splits(world)], [2, 1])

    def test_against_going_through_all_counts(self):
        source = random.Random(65)
        told = {"none": 0, "plain": 0, "listed": 0, "checked": 0}
        for _ in range(900):
            world = some_split_world(source)
            if find_bar(world) is not None:
                continue
            guess, blocks, idle = source.choice(world.lots), source.choice((0, 1, 2, 3, 4, 8, 9)), source.randint(0, 1)
            due = Facts(world, guess).least_split(blocks, idle)
            if due == "many":
                continue
            if due is None:
                told["none"] += 1
                self.raises(TooNear, {"tried": blocks}, find_split, world, guess, blocks, idle)
                continue
            split = find_split(world, guess, blocks, idle)
            self.assertEqual(split, due)
            self.assertIsNone(split_fault(world, split))
            self.assertEqual(split.periods, split.telling + split.listing + split.checked + split.idle)
            told["listed" if split.listing else "plain"] += 1
            told["checked"] += split.checked
        self.assertTrue(all(many > 10 for many in told.values()), told)

    def test_least_counts_against_trying(self):
        source = random.Random(64)
        for _ in range(400):
            modes, sensors = source.randint(1, 3), source.randint(1, 3)
            rooms = [source.randint(1, 6) for _ in range(sensors)]
            needs = [source.randint(1, 9) for _ in range(modes)]
            free = [[source.random() < 0.7 for _ in range(sensors)] for _ in range(modes)]
            ranges = [range(1, rooms[at] + 1) if free[mode][at] else (1,) for mode in range(modes) for at in range(sensors)]
            due = None
            for flat in itertools.product(*ranges):
                rows = [flat[mode * sensors:(mode + 1) * sensors] for mode in range(modes)]
                fits = all(product(row) >= need for row, need in zip(rows, needs))
                if fits and all(product(row[at] for row in rows) <= room for at, room in enumerate(rooms)):
                    due = rows
                    break
            self.assertEqual(least_counts(rooms, free, needs), due)

    def test_the_largest_worlds_are_quick(self):
        hard = Channel(12, [CIRCLE, clean_use(12), each_misses_one(12), ring(12)])
        rows = [[(10 ** 60 + 1, 10 ** 60)] * 4, [(3, 2), (-5, 4), (7, 3), (10 ** 9, 10 ** 9 - 1)], [(1, 3)] * 4]
        plant = Plant(rows, whole(1, 1, 1), whole(0, 0, 0))
        world = World(plant, [Sensor((0, 1, 2), hard)] * 4, [[0], [1], [2], [3]])
        begun = time.process_time()
        splits = plan_splits(world)
        self.assertLess(time.process_time() - begun, 4)
        self.assertEqual([split_fault(world, split) for split in splits], [None] * 4)


class FaultTest(HeldTest):
    def setUp(self):
        uses = (HAZY, clean_use(2), clean_use(4), DEAD)
        seen = ((0, 1), (0,), (0, 1), (0, 1))
        self.world = world_of(((3, 2), (5, 4), (1, 2)), uses, [[1]], seen)
        self.fit = Split((1,), False, 0, 1, 1, ((1, 1, 3, 1), (2, 1, 1, 1), (1, 1, 1, 1)))

    def fault(self, **named):
        told = dict(vars(self.fit))
        told.update(named)
        return split_fault(self.world, Split(**told))

    def test_no_fault(self):
        self.assertIsNone(self.fault())
        self.assertIsNone(self.fault(counts=((1, 1, 4, 1), (3, 1, 1, 1), (1, 1, 1, 1)), idle=1))
        self.assertIsNone(self.fault(counts=((1, 1, 4, 1), (3, 1, 1, 1), (1, 1, 1, 1)), listing=2))

    def test_guess(self):
        for thing in NO_SEQUENCES + ((), (0,), [1], (True,), (1, 1), ((1,),)):
            self.assertEqual(self.fault(guess=thing, checked=7), "guess")

    def test_checked(self):
        for thing in (True, 0, 1, None, "no"):
            self.assertEqual(self.fault(checked=thing, telling=0), "checked")
        for thing in NO_WHOLES + (2, -1):
            self.assertEqual(self.fault(idle=thing, telling=0), "checked")
        world = self.world.with_lots([[0], [1]])
        self.assertEqual(split_fault(world, Split((0,), False, 0, 1, 1, self.fit.counts)), "checked")
        self.assertEqual(split_fault(world, Split((0,), True, 0, 0, 1, self.fit.counts)), "periods")
        self.assertEqual(split_fault(world, Split((1,), True, 0, 1, 1, self.fit.counts)), "checked")

    def test_periods(self):
        for thing in NO_WHOLES + (0, 9, -1):
            self.assertEqual(self.fault(telling=thing, counts=3), "periods")
        for thing in NO_WHOLES + (9, -1):
            self.assertEqual(self.fault(listing=thing, counts=3), "periods")
        self.assertEqual(self.fault(telling=8, listing=8), "growth")

    def test_counts(self):
        rows = self.fit.counts
        wrong = list(NO_SEQUENCES) + [list(rows), rows[:2], rows + rows[:1], (), (rows[0], list(rows[1]), rows[2])]
        wrong.extend([(rows[0], rows[1][:3], rows[2]), (rows[0], rows[1] + (1,), rows[2]), (rows[0], None, rows[2])])
        for thing in NO_WHOLES + (0, -1):
            wrong.append((rows[0], rows[1], (1, 1, 1, thing)))
        # In the guess, dead, unseen and no growing mode: such counts are 1.
        wrong.extend([((1, 2, 2, 1), rows[1], rows[2]), ((1, 1, 2, 2), rows[1], rows[2]), (rows[0], (2, 2, 1, 1), rows[2])])
        wrong.append((rows[0], rows[1], (1, 1, 2, 1)))
        for thing in wrong:
            self.assertEqual(self.fault(counts=thing), "counts", thing)
        self.assertEqual(self.fault(counts=((1, 2, 9, 1), rows[1], rows[2]), listing=0), "counts")

    def test_room_list_and_growth_in_their_order(self):
        rows = self.fit.counts
        self.assertEqual(self.fault(counts=((1, 1, 5, 1), rows[1], rows[2]), listing=0), "room")
        self.assertEqual(self.fault(counts=((1, 1, 4, 1), (1, 1, 2, 1), rows[2])), "room")
        self.assertEqual(self.fault(counts=(rows[0], (4, 1, 1, 1), rows[2])), "room")
        self.assertEqual(self.fault(listing=0), "list")
        self.assertEqual(self.fault(listing=0, idle=1, telling=2), "list")
        self.assertEqual(self.fault(idle=1, telling=2), "growth")
        self.assertEqual(self.fault(counts=((1, 1, 1, 1), (3, 1, 1, 1), rows[2])), "growth")
        world = self.world.with_lots([[1, 2]])
        self.assertEqual(split_fault(world, Split((1, 2), False, 0, 1, 8, ((2, 1, 1, 1), rows[2], rows[2]))), "list")

    def test_a_barred_world_may_have_a_right_split(self):
        world = clean_world((3, 2), 2, 2, ((0,), (1,)))
        self.assertIsNotNone(find_bar(world))
        self.assertIsNone(split_fault(world, Split((1,), False, 0, 1, 0, ((2, 1),))))


class SplitTest(HeldTest):
    def test_it_keeps_what_it_is_given(self):
        things = ([1], 0, None, "a", {}, [[2]])
        split = Split(*things)
        told = (split.guess, split.checked, split.idle, split.telling, split.listing, split.counts)
        for one, other in zip(told, things):
            self.assertIs(one, other)

    def test_periods(self):
        self.assertEqual(Split((), False, 0, 3, 2, ()).periods, 5)
        self.assertEqual(Split((), True, 1, 3, 0, ()).periods, 5)
        self.assertIsInstance(vars(Split)["periods"], property)

    def test_equality(self):
        split = Split((0,), True, 0, 1, 2, ((2,),))
        self.assertTrue(split == Split((0,), True, 0, 1, 2, ((2,),)))
        self.assertFalse(split != Split((0,), True, 0, 1, 2, ((2,),)))
        others = [Split((1,), True, 0, 1, 2, ((2,),)), Split((0,), False, 0, 1, 2, ((2,),)), Split((0,), True, 1, 1, 2, ((2,),))]
        others += [Split((0,), True, 0, 2, 2, ((2,),)), Split((0,), True, 0, 1, 1, ((2,),)), Split((0,), True, 0, 1, 2, ((3,),))]
        for other in others + [None, 3, Split([0], True, 0, 1, 2, ((2,),))]:
            self.assertTrue(split != other)
            self.assertFalse(split == other)
