import itertools
import random
import time

from farheld.channels import Channel
from farheld.errors import BadGroup, BadPrices, Barred
from farheld.plants import Plant
from farheld.ratios import make_ratio
from farheld.renting import (
    Hiring, check_group, check_prices, cheapest_group, does_hold, group_price, hired_world, hiring_fault, least_groups,
    needed_sensors, silenced_world,
)
from farheld.verdicts import (
    Clearance, RateBar, TrustBar, bar_fault, clearance_fault, find_bar, find_clearance,
)
from farheld.worlds import Sensor, World
from tests.helpers import DEAD, NO_SEQUENCES, HeldTest, clean_use, clean_world, each_misses_one, plain_plant, ring, whole
from tests.test_shares import some_use


def all_groups(world):
    sensors = range(len(world.sensors))
    return [group for size in range(len(world.sensors) + 1) for group in itertools.combinations(sensors, size)]


def without(world, group):
    """Return the world in which a group is silenced, by its channels."""
    for sensor in group:
        channel = world.sensors[sensor].channel
        row = [tuple(range(channel.outcomes))] * channel.words
        world = world.with_channel(sensor, Channel(channel.outcomes, [row] * channel.period))
    return world


def holds(world, group):
    return find_bar(without(world, [sensor for sensor in range(len(world.sensors)) if sensor not in group])) is None


def some_rented_world(source, sensors=None):
    """Return a world of which some groups hold, if the draw is good."""
    modes, period = source.choice((1, 1, 2, 3)), source.randint(1, 2)
    rows = [[make_ratio(source.choice((-1, 1)) * source.choice((1, 2, 3, 4, 5)), source.choice((2, 3, 4))) for _ in range(period)] for _ in range(modes)]
    many = source.randint(0, 4) if sensors is None else sensors
    told = []
    for _ in range(many):
        use = source.choice((clean_use(2), clean_use(3), clean_use(4), ring(4), DEAD, each_misses_one(3), some_use(source, 3, 4)))
        seen = sorted(source.sample(range(modes), source.randint(1, modes)))
        told.append(Sensor(seen if source.random() < 0.4 else tuple(range(modes)), Channel(4, [use] * period)))
    lots = [source.sample(range(many), source.randint(0, min(2, many))) for _ in range(source.randint(0, 2))]
    return World(Plant(rows, whole(1, 1, 1)[:modes], whole(0, 0, 0)[:modes]), told, lots)


def trusting(words, many=4, growth=(3, 2), lots=()):
    return clean_world(growth, words, many, lots)


class GroupTest(HeldTest):
    def test_groups(self):
        world = trusting(2, 3)
        for group in ((), (0,), [1, 2], (0, 1, 2), [0, 2]):
            self.assertEqual(check_group(world, group), tuple(group))
            self.are_tuples(check_group(world, group))
        self.assertEqual(check_group(trusting(2, 0), []), ())
        calls = (check_group, silenced_world, hired_world, does_hold)
        for thing in NO_SEQUENCES + ((3,), (-1,), (1, 0), (0, 0), (True,), (False,), (0, True), ("0",), (None,), ((0,),), (0, 1, 2, 3)):
            for call in calls:
                self.raises(BadGroup, {}, call, world, thing)
            self.raises(BadGroup, {}, group_price, world, (1, 2, 3), thing)
        self.raises(BadGroup, {}, check_group, trusting(2, 0), (0,))

    def test_silenced_and_hired_worlds(self):
        uses = (clean_use(2), ring(3), DEAD)
        plant = plain_plant((3, 2), (1, 2))
        sensors = [Sensor(seen, Channel(3, [use])) for seen, use in zip(((0,), (0, 1), (1,)), uses)]
        world = World(plant, sensors, [(0, 1), (2,)])
        for group in all_groups(world):
            self.assertEqual(silenced_world(world, list(group)), without(world, group))
            hired = hired_world(world, group)
            self.assertEqual((hired.plant, hired.sensors), (plant, tuple(sensors[sensor] for sensor in group)))
        self.assertEqual([hired_world(world, group).lots for group in ((0, 2), (1, 2), (2,), (), (0, 1, 2), (0, 1), (1,))],
                         [((0,), (1,)), ((0,), (1,)), ((0,),), ((),), ((0, 1), (2,)), ((0, 1),), ((0,),)])
        self.assertEqual(silenced_world(world, ()), world)
        self.assertEqual(hired_world(world, [0, 1, 2]), world)

    def test_a_group_holds_exactly_if_nothing_bars_its_hired_world(self):
        source = random.Random(1)
        told = {True: 0, False: 0}
        for _ in range(60):
            world = some_rented_world(source)
            for group in all_groups(world):
                due = holds(world, group)
                self.assertIs(does_hold(world, list(group)), due)
                self.assertEqual(find_bar(hired_world(world, group)) is None, due)
                told[due] += 1
        self.assertGreater(min(told.values()), 50)

    def test_prices(self):
        world = trusting(2, 3)
        self.assertEqual(check_prices(world, [0, 1000, 5]), (0, 1000, 5))
        self.assertEqual(check_prices(trusting(2, 0), ()), ())
        for prices in NO_SEQUENCES + ((), (1, 2), (1, 2, 3, 4)):
            for call in (check_prices, cheapest_group):
                self.raises(BadPrices, {"sensor": None}, call, world, prices)
            self.raises(BadPrices, {"sensor": None}, group_price, world, prices, None)
            self.raises(BadPrices, {"sensor": None}, hiring_fault, world, prices, None)
        for wrong in (-1, 1001, None, True, False, "1", (1, 1), 1.0):
            for sensor, prices in ((0, (wrong, wrong, 0)), (1, [0, wrong, wrong]), (2, (0, 1000, wrong))):
                for call in (check_prices, cheapest_group):
                    self.raises(BadPrices, {"sensor": sensor}, call, world, prices)
                self.raises(BadPrices, {"sensor": sensor}, group_price, world, prices, None)
                self.raises(BadPrices, {"sensor": sensor}, hiring_fault, world, prices, None)
        self.assertEqual([group_price(world, [1, 20, 300], group) for group in ((), (0,), [1, 2], (0, 1, 2))], [0, 1, 320, 321])


class HiringTest(HeldTest):
    def test_the_cheapest_of_all_groups(self):
        source = random.Random(2)
        hired = barred = 0
        for _ in range(90):
            world = some_rented_world(source)
            prices = [source.choice((0, 0, 1, 2, 3, 1000)) for _ in world.sensors]
            told = [(sum(prices[sensor] for sensor in group), len(group), group) for group in all_groups(world) if holds(world, group)]
            if not told:
                barred += 1
                self.raises(Barred, {"bar": find_bar(world)}, cheapest_group, world, prices)
                continue
            hired += 1
            hiring = cheapest_group(world, prices)
            price, _, group = min(told)
            self.assertEqual((hiring.group, hiring.price), (group, price))
            own = without(world, [sensor for sensor in range(len(world.sensors)) if sensor not in group])
            self.assertIsNone(clearance_fault(own, hiring.clearance))
            self.check_barred(world, prices, hiring)
            self.assertIsNone(hiring_fault(world, tuple(prices), hiring))
            self.are_tuples((hiring.group, hiring.barred, hiring.clearance.mixtures))
        self.assertGreater(min(hired, barred), 15)

    def check_barred(self, world, prices, hiring):
        cheaper = [set(group) for group in all_groups(world) if sum(prices[sensor] for sensor in group) < hiring.price]
        greatest = sorted(tuple(sorted(group)) for group in cheaper if not any(group < other for other in cheaper))
        self.assertEqual([group for group, _ in hiring.barred], greatest)
        for group, bar in hiring.barred:
            own = without(world, [sensor for sensor in range(len(world.sensors)) if sensor not in group])
            self.assertEqual(bar, find_bar(own))

    def test_equal_prices(self):
        # Two of the sensors are needed; of all couples of one price the least is taken.
        world = trusting(2, 4, (3, 1))
        hiring = cheapest_group(world, (5, 5, 5, 5))
        self.assertEqual((hiring.group, hiring.price), ((0, 1), 10))
        self.assertEqual([group for group, _ in hiring.barred], [(0,), (1,), (2,), (3,)])
        self.assertEqual(cheapest_group(world, (5, 1, 1, 5)).group, (1, 2))
        # Sensors of no price come only where they are needed.
        free = cheapest_group(world, (0, 0, 0, 0))
        self.assertEqual((free.group, free.price, free.barred), ((0, 1), 0, ()))
        self.assertEqual(cheapest_group(world, [1000, 0, 1000, 1000]).group, (0, 1))
        self.assertEqual(cheapest_group(world, (1000, 1000, 0, 1)).group, (2, 3))

    def test_worlds_that_need_nobody(self):
        for many in (0, 3):
            world = World(plain_plant((1, 2)), [Sensor((0,), Channel.clean(2))] * many)
            hiring = cheapest_group(world, (7,) * many)
            self.assertEqual((hiring.group, hiring.price, hiring.barred), ((), 0, ()))
            self.assertEqual((least_groups(world), needed_sensors(world)), (((),), ()))
        alone = World(plain_plant((1, 1)), ())
        self.raises(Barred, {"bar": RateBar((), (0,), ())}, cheapest_group, alone, ())
        self.raises(Barred, {"bar": RateBar((), (0,), ())}, needed_sensors, alone)
        self.assertEqual(least_groups(alone), ())

    def test_words_of_the_judge_in_their_order(self):
        world, prices = trusting(2, 3, (3, 1)), (5, 1, 2)
        good = cheapest_group(world, prices)
        self.assertEqual((good.group, good.price), ((1, 2), 3))
        parts = {"group": good.group, "price": good.price, "clearance": good.clearance, "barred": good.barred}
        self.assertIsNone(hiring_fault(world, list(prices), Hiring(**parts)))
        self.assertIsNone(hiring_fault(world, prices, Hiring([1, 2], 3, good.clearance, good.barred)))
        other = cheapest_group(world, (1, 2, 5))
        bar = good.barred[0][1]
        wrong = {
            "group": (None, 3, "12", (2, 1), (1, 3), (True, 2), (1, 1), {1: 2}),
            "price": (None, True, 2, 4, -3, (3, 1), "3"),
            "clearance": (None, 3, other.clearance, bar, Clearance(None, None), Clearance(good.clearance.mixtures, ((1, 0, 0, 0),)), Clearance(list(good.clearance.mixtures), good.clearance.witnesses)),
            "barred": (None, list(good.barred), (None,), (good.barred[0], list(good.barred[1])), ((good.group, bar),), (((0, 1, 2), bar),), (((1,), None),), (((1,), good.clearance),),
                       (((1,), bar, 3),), (((2, 1), bar),), (((3,), bar),), (((1,), TrustBar(0, (), ())),), (((), find_bar(trusting(2, 3, (3, 1))) or bar),), "ab", {}),
            "cheaper": ((), good.barred[:1], good.barred[1:]),
        }
        self.assertEqual([group for group, _ in good.barred], [(1,), (2,)])
        self.assertIsNone(bar_fault(without(world, (0, 2)), good.barred[0][1]))
        names = list(wrong)
        for at, name in enumerate(names):
            for thing in wrong[name]:
                told = dict(parts)
                told[name if name != "cheaper" else "barred"] = thing
                if name == "barred" and thing == (((), bar),):
                    continue
                self.assertEqual(hiring_fault(world, prices, Hiring(**told)), name, (name, thing))
                # What is wrong behind it does not matter.
                for later in names[at + 1:]:
                    if later != "cheaper" and name != "cheaper":
                        told[later] = None
                        self.assertEqual(hiring_fault(world, prices, Hiring(**told)), name)

    def test_a_hiring_that_is_not_the_first_one_may_be_right(self):
        # Any group of the least price with its own clearance and bars that cover all cheaper groups.
        world = trusting(2, 3, (3, 1))
        own = without(world, (0,))
        bars = tuple((group, find_bar(without(world, [sensor for sensor in range(3) if sensor not in group]))) for group in ((), (0,), (1,), (2,)))
        hiring = Hiring((1, 2), 4, find_clearance(own), bars)
        self.assertIsNone(hiring_fault(world, (2, 2, 2), hiring))
        self.assertIsNone(hiring_fault(world, (2, 2, 2), Hiring((1, 2), 4, find_clearance(own), (([2], bars[3][1]),) + bars[1:3])))
        self.assertEqual(hiring_fault(world, (1, 2, 2), hiring), "cheaper")
        self.assertEqual(cheapest_group(world, (2, 2, 2)).group, (0, 1))

    def test_equality(self):
        parts = ((0,), 3, None, ())
        hiring = Hiring(*parts)
        self.assertTrue(hiring == Hiring(*parts))
        self.assertFalse(hiring != Hiring(*parts))
        for at in range(4):
            other = Hiring(*["x" if place == at else worth for place, worth in enumerate(parts)])
            self.assertTrue(hiring != other)
            self.assertFalse(hiring == other)
        self.assertFalse(hiring == parts)
        kept = [[0], 3, [1], [2]]
        self.assertIs(Hiring(*kept).barred, kept[3])
        world = trusting(2, 3, (3, 1))
        self.assertTrue(cheapest_group(world, (1, 1, 1)) == cheapest_group(world, [1, 1, 1]))


class LeastGroupsTest(HeldTest):
    def test_all_groups_of_drawn_worlds(self):
        source = random.Random(3)
        told = 0
        for _ in range(80):
            world = some_rented_world(source)
            holding = [set(group) for group in all_groups(world) if holds(world, group)]
            least = sorted(tuple(sorted(group)) for group in holding if not any(group - {one} in holding for one in group))
            self.assertEqual(least_groups(world), tuple(least))
            self.are_tuples(least_groups(world))
            if not holding:
                self.raises(Barred, {"bar": find_bar(world)}, needed_sensors, world)
                continue
            told += 1
            needed = tuple(sorted(set(range(len(world.sensors))).intersection(*holding)))
            self.assertEqual(needed_sensors(world), needed)
        self.assertGreater(told, 20)

    def test_liars_need_more_sensors(self):
        world = trusting(2, 4, (3, 2), [(0,), (1,), (2,), (3,)])
        self.assertEqual(least_groups(world), ((0, 1, 2), (0, 1, 3), (0, 2, 3), (1, 2, 3)))
        self.assertEqual(needed_sensors(world), ())
        self.assertEqual(needed_sensors(trusting(2, 3, (3, 2), [(0,), (1,), (2,)])), (0, 1, 2))
        self.assertEqual(least_groups(trusting(2, 3, (3, 2), [(0,), (1,)])), ((0, 1, 2), (2,))[1:])

    def test_lists_stay(self):
        world, prices, group = trusting(2, 3, (3, 1)), [1, 2, 3], [0, 2]
        told = cheapest_group(world, prices)
        silenced_world(world, group), hired_world(world, group), does_hold(world, group), group_price(world, prices, group)
        self.assertEqual((prices, group), ([1, 2, 3], [0, 2]))
        prices[0] = 9
        self.assertEqual(told, cheapest_group(world, (1, 2, 3)))

    def test_wide_channels_in_time(self):
        source = random.Random(4)
        sensors = []
        for _ in range(4):
            table = [[tuple(sorted(source.sample(range(12), source.randint(1, 5)))) for _ in range(12)] for _ in range(4)]
            sensors.append(Sensor((0, 1, 2), Channel(12, table)))
        plant = Plant([[(5, 4)] * 4, [(6, 5)] * 4, [(1, 2)] * 4], whole(1, 1, 1), whole(0, 0, 0))
        begun = time.time()
        for lots in ((), [(0,), (1,), (2,), (3,)], [(0, 1), (2, 3)]):
            world = World(plant, sensors, lots)
            least = least_groups(world)
            try:
                hiring = cheapest_group(world, (3, 2, 5, 4))
            except Barred:
                self.assertEqual(least, ())
                continue
            self.assertIsNone(hiring_fault(world, (3, 2, 5, 4), hiring))
            needed_sensors(world)
        self.assertLess(time.time() - begun, 6)
