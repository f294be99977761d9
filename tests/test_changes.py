import itertools
import random

from farheld.changes import add_lot, add_sensor, clear_outcome, drop_lot, leave_out_mode, put_factor
from farheld.channels import Channel
from farheld.errors import (
    BadLots, BadPhase, BadPlant, BadWorld, LastMode, LastOutcome, NoLot, NoMode, NoOutcome, NoSensor,
)
from farheld.plants import Plant
from farheld.ratios import make_ratio
from farheld.verdicts import find_bar
from farheld.worlds import Sensor, World
from tests.helpers import NO_RATIOS, NO_SEQUENCES, NO_WHOLES, HeldTest, clean_world, plain_plant, whole
from tests.test_verdicts import some_world

TWO_PHASES = Channel(3, [[(0,), (1, 2)], [(0, 1), (1, 2)]])
PLANT = Plant([whole(3, -2), ((1, 2), (1, 3)), whole(5, 7)], whole(1, 2, 3), whole(0, 5, 6))


def three_modes():
    sensors = [Sensor((1,), TWO_PHASES), Sensor((0, 1, 2), Channel.clean(2, 2)), Sensor((2,), Channel.clean(4, 2))]
    return World(PLANT, sensors, [[0, 1], [2]])


class AddTest(HeldTest):
    def test_add_sensor(self):
        world = three_modes()
        sensor = Sensor((0,), Channel.clean(5, 2))
        new = add_sensor(world, sensor)
        self.assertEqual(new, World(PLANT, world.sensors + (sensor,), [[0, 1], [2]]))
        self.assertEqual(len(world.sensors), 3)
        self.assertEqual(new.outcomes, (3, 2, 4, 5))
        self.assertEqual(add_sensor(clean_world((2, 1), 2, 0), Sensor((0,), Channel.clean(2))).lots, ((),))

    def test_a_fifth_sensor_and_wrong_ones(self):
        world = three_modes()
        sensor = Sensor((0,), Channel.clean(5, 2))
        four = add_sensor(world, sensor)
        for thing in (sensor, None, 3):
            self.raises(BadWorld, {"what": "sensors", "sensor": 0}, add_sensor, four, thing)
        for thing in (None, Channel.clean(2, 2), [0], True):
            self.raises(BadWorld, {"what": "sensor", "sensor": 3}, add_sensor, world, thing)
        self.raises(BadWorld, {"what": "period", "sensor": 3}, add_sensor, world, Sensor((0,), Channel.clean(2)))
        low = clean_world((2, 1), 2, 2)
        self.raises(BadWorld, {"what": "seen", "sensor": 2}, add_sensor, low, Sensor((0, 1), Channel.clean(2)))

    def test_add_lot(self):
        world = three_modes()
        for lot in ([1, 2], (2, 1, 1)):
            self.assertEqual(add_lot(world, lot).lots, ((0, 1), (1, 2)))
        self.assertEqual(add_lot(world, []), world)
        self.assertEqual(add_lot(world, (1,)).lots, world.lots)
        self.assertEqual(add_lot(clean_world((2, 1), 2, 3), [2]).lots, ((2,),))
        lot = [0, 2]
        new = add_lot(world, lot)
        lot.clear()
        self.assertEqual(new.lots, ((0, 1), (0, 2)))

    def test_wrong_lots_bear_the_number_of_lots(self):
        world = three_modes()
        for thing in NO_SEQUENCES:
            self.raises(BadLots, {"index": 2, "what": "lot"}, add_lot, world, thing)
        for thing in ([3], [-1], [True], [0, None], ["0"], (0, (1, 1))):
            self.raises(BadLots, {"index": 2, "what": "sensor"}, add_lot, world, thing)
        self.raises(BadLots, {"index": 1, "what": "sensor"}, add_lot, clean_world((2, 1), 2, 1), [1])

    def test_a_sixteenth_and_a_seventeenth_lot(self):
        every = [lot for many in range(3) for lot in itertools.combinations(range(4), many)]
        lots = (every + every)[:16]
        world = clean_world((2, 1), 2, 4, lots[:15])
        self.assertEqual(add_lot(world, lots[15]).lots, tuple(itertools.combinations(range(4), 2)))
        world = clean_world((2, 1), 2, 4, lots)
        self.assertEqual(len(world.lots), 6)
        self.assertEqual(add_lot(world, (0, 1, 2)).lots, ((0, 1, 2), (0, 3), (1, 3), (2, 3)))


class DropTest(HeldTest):
    def test_drop_lot(self):
        world = three_modes()
        self.assertEqual(drop_lot(world, (0, 1)), world.with_lots([[2]]))
        self.assertEqual(drop_lot(world, [0, 1]).lots, ((2,),))
        self.assertEqual(drop_lot(drop_lot(world, [2]), (0, 1)).lots, ((),))
        self.assertEqual(drop_lot(clean_world((2, 1), 2, 1), ()).lots, ((),))
        self.assertEqual(drop_lot(clean_world((2, 1), 2, 1), []).lots, ((),))
        self.assertEqual(world.lots, ((0, 1), (2,)))

    def test_no_such_lot(self):
        world = three_modes()
        for thing in NO_SEQUENCES + ((), (0,), (1, 0), [1, 0], (0, True), [False, 1], (0, 1, 1), (0.0, 1.0), ((0, 1),)):
            self.raises(NoLot, {"lot": thing}, drop_lot, world, thing)
        lot = [0]
        with self.assertRaises(NoLot) as caught:
            drop_lot(world, lot)
        self.assertIs(caught.exception.lot, lot)


class LeaveOutTest(HeldTest):
    def test_leave_out_mode(self):
        world = three_modes()
        rows = PLANT.factors
        less = leave_out_mode(world, 1)
        self.assertEqual(less.plant, Plant((rows[0], rows[2]), whole(1, 3), whole(0, 6)))
        self.assertEqual([sensor.seen for sensor in less.sensors], [(0, 1), (1,)])
        self.assertEqual([sensor.channel for sensor in less.sensors], [Channel.clean(2, 2), Channel.clean(4, 2)])
        self.assertEqual(less.lots, ((0,), (1,)))
        self.assertEqual([sensor.seen for sensor in leave_out_mode(world, 0).sensors], [(0,), (0, 1), (1,)])
        self.assertEqual(leave_out_mode(world, 0).lots, ((0, 1), (2,)))
        self.assertEqual(leave_out_mode(world, 2).lots, ((0, 1),))

    def test_all_sensors_may_go(self):
        world = World(plain_plant((2, 1), (3, 1)), [Sensor((1,), Channel.clean(2))] * 2, [[0], [1]])
        less = leave_out_mode(world, 1)
        self.assertEqual((less.sensors, less.lots), ((), ((),)))

    def test_wrong_modes(self):
        world = three_modes()
        for thing in NO_WHOLES + (3, -1):
            self.raises(NoMode, {"mode": thing}, leave_out_mode, world, thing)
        single = clean_world((2, 1), 2, 1)
        self.raises(LastMode, {}, leave_out_mode, single, 0)
        self.raises(NoMode, {"mode": 1}, leave_out_mode, single, 1)
        self.raises(NoMode, {"mode": False}, leave_out_mode, single, False)


class ClearTest(HeldTest):
    def test_clear_outcome(self):
        world = three_modes()
        for phase in (1, 3, 10 ** 40 + 1):
            new = clear_outcome(world, 0, phase, 0, 1)
            self.assertEqual(new.sensors[0], Sensor((1,), Channel(3, [[(0,), (1, 2)], [(0,), (1, 2)]])))
            self.assertEqual((new.plant, new.sensors[1:], new.lots), (world.plant, world.sensors[1:], world.lots))
        self.assertEqual(clear_outcome(world, 0, 0, 1, 1).sensors[0].channel.table, (((0,), (2,)), ((0, 1), (1, 2))))
        self.assertEqual(world, three_modes())

    def test_errors_in_their_order(self):
        world = three_modes()
        for thing in NO_WHOLES + (3, -1):
            self.raises(NoSensor, {"sensor": thing}, clear_outcome, world, thing, -1, 9, 9)
        for thing in NO_WHOLES + (-1,):
            self.raises(BadPhase, {"phase": thing}, clear_outcome, world, 0, thing, 9, 9)
        for thing in NO_WHOLES + (2, -1):
            self.raises(NoOutcome, {"word": thing, "outcome": 0}, clear_outcome, world, 0, 1, thing, 0)
        for thing in NO_WHOLES + (2, -1, 3):
            self.raises(NoOutcome, {"word": 0, "outcome": thing}, clear_outcome, world, 0, 1, 0, thing)
        self.raises(LastOutcome, {"word": 0}, clear_outcome, world, 0, 2, 0, 0)
        self.raises(NoOutcome, {"word": 0, "outcome": 1}, clear_outcome, world, 0, 0, 0, 1)


class FactorTest(HeldTest):
    def test_put_factor(self):
        world = three_modes()
        for phase in (1, 5):
            new = put_factor(world, 0, phase, (-7, 9))
            self.assertEqual(new.plant.factors, (((3, 1), (-7, 9)),) + PLANT.factors[1:])
            self.assertEqual((new.sensors, new.lots), (world.sensors, world.lots))
        self.assertEqual(put_factor(world, 2, 0, (10 ** 299, 3)).plant.factors[2], ((10 ** 299, 3), (7, 1)))

    def test_errors_in_their_order(self):
        world = three_modes()
        for thing in NO_WHOLES + (3, -1):
            self.raises(NoMode, {"mode": thing}, put_factor, world, thing, -1, 0)
        for thing in NO_WHOLES + (-1,):
            self.raises(BadPhase, {"phase": thing}, put_factor, world, 1, thing, 0)
        for thing in NO_RATIOS + ((0, 1),):
            self.raises(BadPlant, {"what": "factor", "mode": 1}, put_factor, world, 1, 3, thing)


class VerdictTest(HeldTest):
    def test_changes_that_never_bar_and_that_never_keep(self):
        source = random.Random(58)
        kept = 0
        for _ in range(250):
            world = some_world(source)
            is_kept = find_bar(world) is None
            lots = [add_lot(world, source.sample(range(len(world.sensors)), source.randint(0, len(world.sensors))))]
            if not is_kept:
                self.assertIsNotNone(find_bar(lots[0]))
                continue
            kept += 1
            for new in easier_worlds(source, world):
                self.assertIsNone(find_bar(new))
        self.assertGreater(kept, 30)


def easier_worlds(source, world):
    worlds = [drop_lot(world, list(lot)) for lot in world.lots]
    worlds.extend(leave_out_mode(world, mode) for mode in range(world.plant.modes) if world.plant.modes > 1)
    mode, phase = source.randrange(world.plant.modes), source.randrange(4)
    top, bottom = world.plant.factors[mode][phase % world.period]
    worlds.append(put_factor(world, mode, phase, make_ratio(-top, 2 * bottom)))
    if len(world.sensors) < 4:
        worlds.append(add_sensor(world, Sensor((0,), Channel.clean(3, world.period).silenced())))
    for at, sensor in enumerate(world.sensors):
        word = source.randrange(sensor.channel.words)
        heard = sensor.channel.heard(phase, word)
        if len(heard) > 1:
            worlds.append(clear_outcome(world, at, phase, word, source.choice(heard)))
    return worlds
