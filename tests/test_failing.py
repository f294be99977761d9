import itertools
import random
import time

from farheld.channels import Channel
from farheld.errors import BadMany
from farheld.failing import Borne, greatest_families, least_silences, liars_world, most_liars, trade_of
from farheld.plants import Plant
from farheld.renting import least_groups, silenced_world
from farheld.verdicts import RateBar, TrustBar, find_bar
from farheld.worlds import Sensor, World
from tests.helpers import NO_WHOLES, HeldTest, plain_plant, whole
from tests.test_renting import all_groups, some_rented_world, trusting, without


def all_families(world):
    """Return all families of lots as a world keeps them."""
    groups = all_groups(world)
    told = set()
    for size in range(1, 2 if len(groups) > 8 else len(groups) + 1):
        for lots in itertools.combinations(groups, size):
            told.add(world.with_lots(lots).lots)
    if len(groups) > 8:
        # For four sensors they are built up lot by lot.
        last = told
        while last:
            last = {world.with_lots(lots + (group,)).lots for lots in last for group in groups} - told
            told |= last
    return sorted(told)


def lies_in(lots, others):
    return all(any(set(lot) <= set(other) for other in others) for lot in lots)


class SilenceTest(HeldTest):
    def test_all_groups_of_drawn_worlds(self):
        source = random.Random(1)
        told = 0
        for _ in range(80):
            world = some_rented_world(source)
            barring = [set(group) for group in all_groups(world) if find_bar(without(world, group)) is not None]
            least = tuple(sorted(tuple(sorted(group)) for group in barring if not any(other < group for other in barring)))
            self.assertEqual(least_silences(world), least)
            self.are_tuples(least_silences(world))
            groups = least_groups(world)
            for group in all_groups(world):
                is_barred = set(group) in barring
                self.assertEqual(any(set(one) <= set(group) for one in least), is_barred)
                self.assertEqual(all(set(one) & set(group) for one in groups), is_barred)
                self.assertEqual(find_bar(silenced_world(world, group)) is not None, is_barred)
            told += len(least)
        self.assertGreater(told, 30)

    def test_by_hand(self):
        self.assertEqual(least_silences(trusting(2, 3, (3, 2))), ((0, 1, 2),))
        self.assertEqual(least_silences(trusting(2, 3, (3, 1))), ((0, 1), (0, 2), (1, 2)))
        self.assertEqual(least_silences(trusting(2, 3, (9, 1))), ((),))
        self.assertEqual(least_silences(trusting(2, 3, (1, 2))), ())
        self.assertEqual(least_silences(World(plain_plant((1, 1)), ())), ((),))


class LiarsTest(HeldTest):
    def test_worlds_of_liars(self):
        world = trusting(2, 4, lots=[(0, 1)])
        for many in range(5):
            told = liars_world(world, many)
            self.assertEqual(told.lots, tuple(itertools.combinations(range(4), many)))
            self.assertEqual((told.plant, told.sensors), (world.plant, world.sensors))
        self.assertEqual(liars_world(trusting(2, 0), 0).lots, ((),))
        for many in NO_WHOLES + (-1, 5):
            self.raises(BadMany, {"many": many}, liars_world, world, many)
        self.raises(BadMany, {"many": 1}, liars_world, trusting(2, 0), 1)

    def test_most_liars(self):
        for world, many, bar in (
            (trusting(2, 3), 1, TrustBar), (trusting(2, 4), 1, TrustBar), (trusting(2, 4, (3, 1)), 1, TrustBar), (trusting(2, 4, (5, 1)), 1, RateBar), (trusting(2, 2), 0, TrustBar), (trusting(2, 1, (3, 1)), None, RateBar),
            (trusting(2, 3, (1, 2)), 3, None), (trusting(2, 0, (1, 2)), 0, None), (trusting(2, 0), None, RateBar), (trusting(2, 3, (1, 2), [(0, 1, 2)]), 3, None),
        ):
            told = most_liars(world)
            self.assertEqual(told.many, many)
            if bar is None:
                self.assertIsNone(told.bar)
                continue
            more = 0 if many is None else many + 1
            self.assertEqual(told.bar, find_bar(liars_world(world, more)))
            self.assertIsInstance(told.bar, bar)
            lots = list(itertools.combinations(range(len(world.sensors)), more))
            self.assertEqual(told, Borne(many, find_bar(world.with_lots(lots))))

    def test_drawn_worlds(self):
        source = random.Random(2)
        seen = set()
        for _ in range(70):
            world = some_rented_world(source)
            sensors = len(world.sensors)
            bars = [find_bar(liars_world(world, many)) for many in range(sensors + 1)]
            borne = [many for many, bar in enumerate(bars) if bar is None]
            many = max(borne) if borne else None
            self.assertEqual(borne, list(range(len(borne))))
            due = None if many == sensors else bars[0 if many is None else many + 1]
            self.assertEqual(most_liars(world), Borne(many, due))
            self.check_trade(world, len(borne))
            seen.add(many)
        self.assertGreater(len(seen), 2)

    def check_trade(self, world, entries):
        told, sensors = trade_of(world), len(world.sensors)
        self.assertIsInstance(told, tuple)
        self.assertEqual(len(told), entries)
        for many, silent in enumerate(told):
            lying = liars_world(world, many)
            for size in range(sensors + 1):
                groups = itertools.combinations(range(sensors), size)
                bears = all(find_bar(without(lying, group)) is None for group in groups)
                self.assertEqual(bears, size <= silent)
        if world.plant.growing:
            self.assertTrue(all(one > other for one, other in zip(told, told[1:])))
        else:
            self.assertEqual(told, (sensors,) * (sensors + 1))

    def test_trade_by_hand(self):
        self.assertEqual(trade_of(trusting(2, 4)), (3, 1))
        self.assertEqual(trade_of(trusting(2, 4, lots=[(0, 1, 2)])), (3, 1))
        self.assertEqual(trade_of(trusting(2, 3)), (2, 0))
        self.assertEqual(trade_of(trusting(2, 2)), (1,))
        self.assertEqual(trade_of(trusting(2, 4, (3, 1))), (2, 1))
        self.assertEqual(trade_of(trusting(2, 2, (5, 1))), ())
        self.assertEqual(trade_of(trusting(2, 4, (1, 2))), (4,) * 5)
        self.assertEqual(trade_of(trusting(2, 0, (1, 2))), (0,))
        self.assertEqual(trade_of(trusting(2, 0)), ())

    def test_equality(self):
        bar = TrustBar(0, (), ())
        self.assertTrue(Borne(1, bar) == Borne(1, TrustBar(0, (), ())))
        self.assertFalse(Borne(1, bar) != Borne(1, bar))
        for other in (Borne(2, bar), Borne(1, None), None, (1, bar)):
            self.assertTrue(Borne(1, bar) != other)
            self.assertFalse(Borne(1, bar) == other)
        kept = [1]
        self.assertIs(Borne(kept, 2).many, kept)


class FamiliesTest(HeldTest):
    def test_all_families_of_drawn_worlds(self):
        source = random.Random(3)
        seen = {}
        for turn in range(34):
            world = some_rented_world(source, 4 if turn % 17 == 0 else source.randint(0, 3))
            families = all_families(world)
            self.assertEqual(len(families), (1, 2, 5, 19, 167)[len(world.sensors)])
            borne = [lots for lots in families if find_bar(world.with_lots(lots)) is None]
            greatest = [lots for lots in borne if not any(lots != other and lies_in(lots, other) for other in borne)]
            told = greatest_families(world)
            self.assertEqual(told, tuple(greatest))
            self.are_tuples(told)
            for lots in families:
                self.assertEqual(any(lies_in(lots, other) for other in told), lots in borne)
            seen[len(told)] = seen.get(len(told), 0) + 1
        self.assertGreater(len(seen), 2)

    def test_by_hand(self):
        self.assertEqual(greatest_families(trusting(2, 0, (1, 2))), (((),),))
        self.assertEqual(greatest_families(trusting(2, 0)), ())
        self.assertEqual(greatest_families(trusting(2, 2, (1, 2), [(0,)])), (((0, 1),),))
        self.assertEqual(greatest_families(trusting(2, 2)), (((0,),), ((1,),)))
        self.assertEqual(greatest_families(trusting(2, 3)), (((0,), (1,), (2,)), ((0, 1),), ((0, 2),), ((1, 2),)))
        self.assertEqual(greatest_families(trusting(2, 1, (5, 1))), ())

    def test_wide_worlds_in_time(self):
        source = random.Random(4)
        sensors = []
        for _ in range(4):
            table = [[tuple(sorted(source.sample(range(12), source.randint(1, 3)))) for _ in range(12)] for _ in range(4)]
            sensors.append(Sensor((0, 1, 2), Channel(12, table)))
        plant = Plant([[(5, 4)] * 4, [(6, 5)] * 4, [(1, 2)] * 4], whole(1, 1, 1), whole(0, 0, 0))
        world = World(plant, sensors, [(0,)])
        begun = time.time()
        self.assertGreater(len(greatest_families(world)), 0)
        most_liars(world), trade_of(world), least_silences(world)
        self.assertLess(time.time() - begun, 5)
