import itertools
import random
import time
from fractions import Fraction

from farheld.channels import Channel
from farheld.errors import Barred
from farheld.plants import Plant
from farheld.ratios import HALF, ONE, ZERO, compare, make_ratio
from farheld.shares import number_of
from farheld.verdicts import (
    Clearance, RateBar, TrustBar, bar_fault, clearance_fault, find_bar, find_clearance, find_margin, find_rate_bar,
    find_trust_bar, list_least_bars, list_tellers, list_watchers, period_growth, period_number, walk_rate_bars,
)
from farheld.worlds import Sensor, World
from tests.helpers import NO_RATIOS, RING, HeldTest, clean_use, clean_world, plain_plant, ring, whole
from tests.test_shares import some_use

HAZY = Channel(3, [ring(3)])
THIRD = (1, 3)


def some_world(source):
    modes, period = source.randint(1, 3), source.randint(1, 2)
    rows = []
    for _ in range(modes):
        rows.append([make_ratio(source.choice((-3, -1, 1, 1, 2, 3)), source.choice((1, 1, 2))) for _ in range(period)])
    sensors = []
    for _ in range(source.randint(0, 4)):
        words, outcomes = source.randint(1, 4), source.randint(1, 5)
        table = [some_use(source, words, outcomes) for _ in range(period)]
        sensors.append(Sensor(sorted(source.sample(range(modes), source.randint(1, modes))), Channel(12, table)))
    lots = [source.sample(range(len(sensors)), source.randint(0, min(2, len(sensors)))) for _ in range(source.randint(0, 3))]
    return World(Plant(rows, [ONE] * modes, [ZERO] * modes), sensors, lots)


def sets_of(world):
    modes = range(world.plant.modes)
    return [told for many in range(1, world.plant.modes + 1) for told in itertools.combinations(modes, many)]


def rate_holds(world, lot, modes):
    growth, numbers = Fraction(1), Fraction(1)
    for mode in modes:
        for top, bottom in world.plant.factors[mode]:
            growth *= Fraction(abs(top), bottom)
    for at, sensor in enumerate(world.sensors):
        if at not in lot and set(sensor.seen) & set(modes):
            for use in sensor.channel.table:
                numbers *= Fraction(*number_of(use))
    return growth < numbers


def trust_holds(world, mode, first, second):
    for at, sensor in enumerate(world.sensors):
        if at in first or at in second or mode not in sensor.seen:
            continue
        for use in sensor.channel.table:
            if any(not set(one) & set(other) for one in use for other in use):
                return True
    return False


class NumbersTest(HeldTest):
    def setUp(self):
        plant = Plant([[(3, 2), (-2, 1)], [(1, 2), (1, 1)]], whole(1, 1), whole(0, 0))
        ring_then_two = Channel(5, [RING, ((0,), (1,), (1,), (1,), (1,))])
        sensors = [Sensor((0,), ring_then_two), Sensor((0, 1), Channel.clean(3, 2)), Sensor((1,), HAZY.repeated(2))]
        self.world = World(plant, sensors, [[0], [1, 2]])

    def test_growth_and_numbers(self):
        world = self.world
        self.assertEqual([period_growth(world, modes) for modes in ((0,), (1,), (0, 1))], [(3, 1), HALF, (3, 2)])
        self.assertEqual([period_number(world, sensor) for sensor in range(3)], [(5, 1), (9, 1), (9, 4)])

    def test_tellers_and_watchers(self):
        world = self.world
        self.assertEqual(list_tellers(world, (), (0,)), (0, 1))
        self.assertEqual(list_tellers(world, (0,), (0, 1)), (1, 2))
        self.assertEqual(list_tellers(world, (0, 1, 2), (0, 1)), ())
        self.assertEqual(list_watchers(world, (), (), 0), (0, 1))
        self.assertEqual(list_watchers(world, (0,), (), 0), (1,))
        self.assertEqual(list_watchers(world, (), (1,), 1), ())
        self.assertEqual(list_watchers(world, (1, 2), (0,), 0), ())

    def test_margins(self):
        world = self.world
        self.assertEqual(find_margin(world, (), (0, 1)), (135, 2))
        self.assertEqual(find_margin(world, (1,), (0,)), (5, 3))
        self.assertEqual(find_margin(world, (0, 1), (0,)), (1, 3))
        self.assertEqual(find_margin(world, (1,), (0, 1)), (15, 2))


class BarTest(HeldTest):
    def test_margins_of_1_and_a_very_little_beside_it(self):
        tiny = 10 ** 290
        for factor, is_barred in (((2 * tiny - 1, tiny), False), ((2, 1), True), ((2 * tiny + 1, tiny), True)):
            for sign in (1, -1):
                world = clean_world((sign * factor[0], factor[1]), 2, 1)
                self.assertEqual(compare(find_margin(world, (), (0,)), ONE) <= 0, is_barred)
                bar = find_rate_bar(world)
                self.assertEqual(bar is not None, is_barred)
                self.assertEqual(find_bar(world), bar)
                if is_barred:
                    self.assertEqual((bar.lot, bar.modes, len(bar.weights)), ((), (0,), 1))
                    self.assertIsNone(bar_fault(world, bar))
        ring_world = World(plain_plant((5, 2)), [Sensor((0,), Channel(5, [RING]))])
        self.assertIsNotNone(find_rate_bar(ring_world))
        self.assertIsNone(find_rate_bar(ring_world.with_plant(plain_plant((249, 100)))))

    def test_no_sensors(self):
        world = World(plain_plant((1, 1)), ())
        self.assertEqual(find_bar(world), RateBar((), (0,), ()))
        self.assertEqual(find_trust_bar(world), TrustBar(0, (), ()))
        self.assertEqual(list_least_bars(world), (RateBar((), (0,), ()), TrustBar(0, (), ())))
        kept = World(plain_plant((99, 100), (-1, 2)), ())
        self.assertIsNone(find_bar(kept))
        self.assertEqual(find_clearance(kept), Clearance((), ()))
        self.assertIsNone(clearance_fault(kept, Clearance((), ())))
        self.assertEqual(list_least_bars(kept), ())

    def test_trust(self):
        world = clean_world((3, 2), 2, 3, [[0], [1], [2]])
        self.assertIsNone(find_bar(world))
        two = clean_world((3, 2), 2, 2, [[0], [1]])
        self.assertIsNone(find_rate_bar(two))
        self.assertEqual(find_bar(two), TrustBar(0, (0,), (1,)))
        self.assertEqual(find_trust_bar(two), TrustBar(0, (0,), (1,)))
        hazy = World(plain_plant((11, 10)), [Sensor((0,), HAZY)])
        self.assertEqual((find_rate_bar(hazy), find_bar(hazy)), (None, TrustBar(0, (), ())))
        self.assertIsNone(find_bar(World(plain_plant((9, 10)), [Sensor((0,), HAZY)])))

    def test_order_of_bars(self):
        world = World(plain_plant((2, 1), (2, 1), (1, 2)), [Sensor((0,), Channel.clean(2)), Sensor((1,), Channel.clean(3))],
                      [[1], [0]])
        told = [(bar.modes, bar.lot) for bar in walk_rate_bars(world)]
        self.assertEqual(told, [((0,), (0,)), ((0,), (1,)), ((1,), (1,)), ((0, 1), (0,)), ((0, 1), (1,)), ((0, 2), (0,)),
                                ((1, 2), (1,)), ((0, 1, 2), (1,))])
        self.assertEqual(find_rate_bar(world), next(iter(walk_rate_bars(world))))
        least = [(bar.modes, bar.lot) for bar in list_least_bars(world) if isinstance(bar, RateBar)]
        self.assertEqual(least, [((0,), (0,)), ((0,), (1,)), ((1,), (1,))])
        trust = [bar for bar in list_least_bars(world) if isinstance(bar, TrustBar)]
        self.assertEqual(trust, [TrustBar(0, (0,), (0,)), TrustBar(0, (0,), (1,)), TrustBar(1, (0,), (1,)),
                                 TrustBar(1, (1,), (1,))])
        self.assertEqual(list_least_bars(world)[3:], tuple(trust))

    def test_a_set_that_is_barred_alone(self):
        # Each mode alone could be told, both together cannot.
        world = World(plain_plant((2, 1), (2, 1)), [Sensor((0, 1), Channel.clean(3))])
        bar = find_bar(world)
        self.assertEqual((bar.lot, bar.modes, bar.weights), ((), (0, 1), (((THIRD,) * 3,),)))
        self.are_tuples(bar.weights)
        self.assertEqual(list_least_bars(world), (bar,))

    def test_against_the_conditions(self):
        source = random.Random(41)
        barred = 0
        for _ in range(120):
            world = some_world(source)
            rate = [(modes, lot) for modes in sets_of(world) for lot in world.lots if not rate_holds(world, lot, modes)]
            trust = []
            for mode in world.plant.growing:
                for first, second in itertools.combinations_with_replacement(world.lots, 2):
                    if not trust_holds(world, mode, first, second):
                        trust.append(TrustBar(mode, first, second))
            bars = list(walk_rate_bars(world))
            self.assertEqual([(bar.modes, bar.lot) for bar in bars], rate)
            self.assertEqual(find_rate_bar(world), bars[0] if bars else None)
            self.assertEqual(find_trust_bar(world), trust[0] if trust else None)
            self.assertEqual(find_bar(world), (bars + trust + [None])[0])
            least = [bar for bar in bars if not any(
                bar.lot == lot and set(modes) < set(bar.modes) for modes, lot in rate)]
            self.assertEqual(list_least_bars(world), tuple(least + trust))
            for bar in bars + trust:
                self.assertIsNone(bar_fault(world, bar))
            if bars + trust:
                barred += 1
                self.raises(Barred, {"bar": (bars + trust)[0]}, find_clearance, world)
            else:
                self.assertIsNone(clearance_fault(world, find_clearance(world)))
        self.assertTrue(20 < barred < 110, barred)

    def test_greatest_worlds(self):
        source = random.Random(42)
        plant = Plant([[(11, 10)] * 4] * 3, whole(1, 1, 1), whole(0, 0, 0))
        sensors = []
        for _ in range(4):
            table = [[sorted(source.sample(range(12), source.randint(1, 7))) for _ in range(12)] for _ in range(4)]
            sensors.append(Sensor((0, 1, 2), Channel(12, table)))
        world = World(plant, sensors, list(itertools.combinations(range(4), 1)))
        begun = time.process_time()
        bar = find_bar(world)
        if bar is None:
            self.assertIsNone(clearance_fault(world, find_clearance(world)))
        else:
            self.assertIsNone(bar_fault(world, bar))
        self.assertLess(time.process_time() - begun, 3)


class BarFaultTest(HeldTest):
    def setUp(self):
        sensors = [Sensor((0,), Channel.clean(2)), Sensor((0, 1), Channel(5, [RING])), Sensor((1,), HAZY)]
        self.world = World(plain_plant((5, 2), (1, 2)), sensors, [[0], [2]])
        self.weights = (((((1, 5),) * 5),),)

    def fault(self, lot=(0,), modes=(0,), weights=None):
        return bar_fault(self.world, RateBar(lot, modes, self.weights if weights is None else weights))

    def test_right(self):
        self.assertIsNone(self.fault())

    def test_lot(self):
        for lot in ([0], (1,), (), (True,), (False,), (0.0,), None, 0, "0", (0, 2), ((0,),), ([0],)):
            self.assertEqual(self.fault(lot, None, 7), "lot", lot)

    def test_modes(self):
        for modes in (None, (), [0], (2,), (1, 0), (0, 0), (False,), (0, True), (-1,), ("0",), 0, (0, 1, 2)):
            self.assertEqual(self.fault(modes=modes, weights=7), "modes", modes)

    def test_weights(self):
        item = ((1, 5),) * 5
        for weights in (
            7, "a", (), [[item]], ([item],), ((list(item),),), ((item, item),), ((item,), (item,)), ((item[:4],),),
            ((item + (ZERO,),),), ((((1, 5),) * 4 + ((1, 4),),),), ((((2, 5), (-1, 5)) + item[2:],),),
            ((item[:4] + ([1, 5],),),), ((item[:4] + (0.2,),),), ((item[:4] + (None,),),), (item,), (None,), ((None,),),
        ):
            self.assertEqual(self.fault(weights=weights), "weights", weights)
        for thing in NO_RATIOS:
            self.assertEqual(self.fault(weights=((item[:4] + (thing,),),)), "weights")

    def test_rate(self):
        self.assertEqual(self.fault(weights=(((HALF, HALF, ZERO, ZERO, ZERO),),)), "rate")
        self.assertEqual(self.fault((2,), (0,), (((HALF, HALF),),) + self.weights), "rate")
        self.assertEqual(self.fault((2,), (1,)), "rate")
        self.assertEqual(bar_fault(self.world.with_plant(plain_plant((249, 100), (1, 2))), RateBar((0,), (0,), self.weights)),
                         "rate")
        self.assertIsNone(bar_fault(self.world.with_plant(plain_plant((-5, 2), (2, 1))), RateBar((0,), (0,), self.weights)))

    def test_weights_of_several_phases_and_tellers(self):
        plant = Plant([[(-3, 1), (2, 1)]], whole(1), whole(0))
        table = [((0,), (1,)), ((0, 1), (1, 2), (0, 2))[:2]]
        world = World(plant, [Sensor((0,), Channel(3, table)), Sensor((0,), Channel.clean(2, 2))])
        one = ((HALF, HALF), (ZERO, ONE, ZERO))
        other = ((HALF, HALF), (HALF, HALF))
        self.assertEqual(bar_fault(world, RateBar((), (0,), (one, other))), "rate")
        strong = world.with_plant(Plant([[(-4, 1), (2, 1)]], whole(1), whole(0)))
        self.assertIsNone(bar_fault(strong, RateBar((), (0,), (one, other))))
        # Outcome 2 stands in the use of phase 1 alone.
        self.assertEqual(bar_fault(strong, RateBar((), (0,), (((HALF, HALF, ZERO), one[1]), other))), "weights")
        self.assertEqual(bar_fault(strong, RateBar((), (0,), ((one[0], (ZERO, ONE)), other))), "weights")

    def test_trust_bars(self):
        world = World(plain_plant((1, 1), (1, 2)), [Sensor((0,), Channel.clean(2)), Sensor((1,), HAZY)], [[0], [1]])
        for bar in (TrustBar(0, (0,), (0,)), TrustBar(0, (0,), (1,)), TrustBar(0, (1,), (0,))):
            self.assertIsNone(bar_fault(world, bar))
        for mode in (1, 2, -1, None, False, 0.0, "0", (0,), [0]):
            self.assertEqual(bar_fault(world, TrustBar(mode, None, None)), "mode", mode)
        for lot in ([0], (2,), (), (False,), None, 0, (0, 1)):
            self.assertEqual(bar_fault(world, TrustBar(0, lot, (0,))), "lot")
            self.assertEqual(bar_fault(world, TrustBar(0, (0,), lot)), "lot")
            self.assertEqual(bar_fault(world, TrustBar(0, (1,), lot)), "lot")
        self.assertEqual(bar_fault(world, TrustBar(0, (1,), (1,))), "watcher")

    def test_equality_of_results(self):
        for one, others in (
            (RateBar([0], 1, 2), (RateBar((0,), 1, 2), RateBar([0], 2, 2), RateBar([0], 1, 3), TrustBar([0], 1, 2))),
            (TrustBar([0], 1, 2), (TrustBar(0, 1, 2), TrustBar([0], 2, 2), TrustBar([0], 1, 1), RateBar([0], 1, 2))),
            (Clearance([0], 1), (Clearance((0,), 1), Clearance([0], 2), None, ([0], 1))),
        ):
            self.assertTrue(one == type(one)(*one.__dict__.values()))
            self.assertFalse(one != type(one)(*one.__dict__.values()))
            for other in others:
                self.assertTrue(one != other)
                self.assertFalse(one == other)


class ClearanceTest(HeldTest):
    def setUp(self):
        two = Channel(3, [((0,), (0, 1)), ((0,), (1, 2))])
        sensors = [Sensor((0,), two), Sensor((0, 1), two), Sensor((0,), Channel.clean(3, 2))]
        self.world = World(Plant([[(-1, 1), (3, 2)], [(1, 2), (1, 2)]], whole(1, 1), whole(0, 0)), sensors, [[0], [1]])
        self.clearance = find_clearance(self.world)

    def fault(self, mixtures=None, witnesses=None):
        told = self.clearance
        mixtures = told.mixtures if mixtures is None else mixtures
        return clearance_fault(self.world, Clearance(mixtures, told.witnesses if witnesses is None else witnesses))

    def test_found(self):
        self.assertEqual(self.clearance.witnesses, ((1, 1, 0, 1), (2, 0, 0, 1), (0, 1, 0, 1)))
        self.assertEqual([len(row) for row in self.clearance.mixtures], [2, 2, 2])
        self.are_tuples((self.clearance.mixtures, self.clearance.witnesses))
        self.assertIsNone(self.fault())

    def test_barred(self):
        world = self.world.with_lots([[0, 1], [2]])
        self.raises(Barred, {"bar": TrustBar(0, (0, 1), (2,))}, find_clearance, world)
        rate = World(plain_plant((2, 1)), [Sensor((0,), Channel.clean(2))])
        self.raises(Barred, {"bar": RateBar((), (0,), (((HALF, HALF),),))}, find_clearance, rate)

    def test_mixtures(self):
        told = self.clearance.mixtures
        for mixtures in (
            7, "abc", (), list(told), told[:2], told + told[:1], told[:2] + (list(told[2]),), told[:2] + (told[2][:1],),
            told[:2] + ((told[2][0], (HALF, HALF)),), told[:2] + ((told[2][0], (HALF, HALF, HALF)),),
            told[:2] + ((told[2][0], [THIRD] * 3),), told[:2] + ((told[2][0], (THIRD, (2, 3), [0, 1])),),
            told[:2] + ((told[2][0], (whole(2)[0], (-1, 1), ZERO)),), (None,) * 3, ((None,) * 2,) * 3,
        ):
            self.assertEqual(self.fault(mixtures, 7), "mixtures", mixtures)

    def test_rate(self):
        told = self.clearance.mixtures
        silent = (whole(1, 0, 0),) * 2
        self.assertIsNone(self.fault(told[:2] + (silent,)))
        self.assertEqual(self.fault((told[0],) + ((whole(1, 0),) * 2, silent), 7), "rate")
        tight = self.world.with_plant(Plant([[(-3, 1), (6, 1)], [(1, 2), (1, 2)]], whole(1, 1), whole(0, 0)))
        self.assertEqual(clearance_fault(tight, self.clearance), "rate")
        below = self.world.with_plant(Plant([[(-3, 1), (599, 100)], [(1, 2), (1, 2)]], whole(1, 1), whole(0, 0)))
        self.assertIsNone(clearance_fault(below, self.clearance))

    def test_witnesses(self):
        told = self.clearance.witnesses
        for other in ((2, 0, 2, 0), (2, 1, 1, 2), (1, 1, 1, 0)):
            self.assertIsNone(self.fault(witnesses=(other,) + told[1:]), other)
        for other in (
            None, 7, [1, 1, 0, 1], (1, 1, 0), (1, 1, 0, 1, 0), (0, 1, 0, 1), (3, 0, 0, 1), (-1, 0, 0, 1), (2, 2, 0, 1),
            (2, -1, 0, 1), (1, 0, 0, 1), (1, 1, 0, 0), (1, 1, 0, 2), (1, 1, 2, 0), (2, 0, 0, 3), (True, 1, 0, 1),
            (1, True, 0, 1), (1, 1, False, 1), (1, 1, 0, True), (1.0, 1, 0, 1), ("1", 1, 0, 1), (2, 0, -1, 1),
        ):
            self.assertEqual(self.fault(witnesses=(other,) + told[1:]), "witness", other)
        for witnesses in (7, list(told), told[:2], told + told[:1], (), "abc"):
            self.assertEqual(self.fault(witnesses=witnesses), "witness", witnesses)
        # A sensor that does not see the mode is no witness.
        plant = Plant([[(-1, 1), (3, 2)], [(1, 1), (1, 1)]], whole(1, 1), whole(0, 0))
        world = World(plant, self.world.sensors, ())
        clearance = find_clearance(world)
        self.assertEqual(clearance.witnesses, ((0, 1, 0, 1), (1, 1, 0, 1)))
        wrong = Clearance(clearance.mixtures, clearance.witnesses[:1] + ((2, 0, 0, 1),))
        self.assertEqual(clearance_fault(world, wrong), "witness")

    def test_only_a_kept_world_has_a_clearance(self):
        source = random.Random(43)
        for _ in range(60):
            world = some_world(source)
            if find_rate_bar(world) is None:
                continue
            mixtures = []
            for sensor in world.sensors:
                row = []
                for use in sensor.channel.table:
                    parts = [source.randint(0, 3) for _ in use]
                    parts[0] += 1
                    row.append(tuple(make_ratio(part, sum(parts)) for part in parts))
                mixtures.append(tuple(row))
            self.assertEqual(clearance_fault(world, Clearance(tuple(mixtures), ())), "rate")

    def test_clean_use_is_what_it_says(self):
        self.assertEqual(Channel.clean(3).table, (clean_use(3),))
