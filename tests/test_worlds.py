from farheld.channels import Channel
from farheld.errors import (
    BadLots, BadOrder, BadOutcomes, BadPhase, BadSensor, BadTicks, BadTimes, BadUnit, BadWorld, NoMode, NoSensor,
)
from farheld.plants import Plant
from farheld.worlds import Sensor, World
from tests.helpers import NO_RATIOS, NO_SEQUENCES, NO_WHOLES, RING, HeldTest, clean_world, plain_plant, whole

ONE_WORD = Channel(3, [[(0,), (1, 2)], [(0, 1), (1, 2)]])
PLANT = Plant([whole(3, -2), ((1, 2), (1, 3))], whole(1, 2), whole(0, 5))


class SensorTest(HeldTest):
    def test_attributes_and_equality(self):
        seen = [0, 2]
        sensor = Sensor(seen, ONE_WORD)
        seen.append(7)
        self.assertEqual((sensor.seen, sensor.channel), ((0, 2), ONE_WORD))
        self.are_tuples(sensor.seen)
        self.assertTrue(sensor == Sensor((0, 2), Channel(3, ONE_WORD.table)))
        self.assertFalse(sensor != Sensor((0, 2), ONE_WORD))
        for other in (Sensor((0,), ONE_WORD), Sensor((0, 2), ONE_WORD.silenced()), None, ((0, 2), ONE_WORD)):
            self.assertTrue(sensor != other)
            self.assertFalse(sensor == other)
        self.assertEqual(Sensor((0, 1, 2), ONE_WORD).seen, (0, 1, 2))

    def test_wrong_sensors(self):
        for thing in NO_SEQUENCES + ([], [3], [1, 0], [1, 1], [-1], [False], [0, True], ["0"], [0, 1, 2, 3]):
            self.raises(BadSensor, {"what": "seen"}, Sensor, thing, None)
        for thing in (None, ONE_WORD.table, 3, Sensor((0,), ONE_WORD)):
            self.raises(BadSensor, {"what": "channel"}, Sensor, (0,), thing)


class WorldTest(HeldTest):
    def setUp(self):
        self.sensors = [Sensor((0, 1), ONE_WORD), Sensor([1], Channel.clean(2, 2)), Sensor((0,), Channel.clean(4, 2))]
        self.world = World(PLANT, self.sensors, [[2, 1], [0], [1]])

    def test_attributes(self):
        world = self.world
        self.assertEqual((world.plant, world.sensors, world.lots), (PLANT, tuple(self.sensors), ((0,), (1, 2))))
        self.assertEqual((world.period, world.outcomes, world.outcome_rows), (2, (3, 2, 4), 24))
        self.are_tuples((world.sensors, world.lots, world.outcomes))
        bare = World(PLANT, ())
        self.assertEqual((bare.sensors, bare.lots, bare.outcomes, bare.outcome_rows), ((), ((),), (), 1))
        self.assertEqual(World(PLANT, self.sensors).lots, ((),))

    def test_what_is_passed_in_is_neither_changed_nor_kept(self):
        lots = [[2, 1], [0], [1]]
        sensors = list(self.sensors)
        world = World(PLANT, sensors, lots)
        self.assertEqual((sensors, lots), (self.sensors, [[2, 1], [0], [1]]))
        sensors.pop()
        lots[0].clear()
        lots.pop()
        self.assertEqual(world, self.world)

    def test_equality(self):
        self.assertFalse(self.world != World(PLANT, self.sensors, ((0,), (1, 2))))
        for other in (
            World(PLANT, self.sensors), World(PLANT, self.sensors[:2], [[0]]), None, PLANT,
            World(PLANT.with_sign(0, 0), self.sensors, self.world.lots),
        ):
            self.assertFalse(self.world == other)
            self.assertTrue(self.world != other)

    def test_wrong_worlds(self):
        for thing in (None, 3, ONE_WORD, PLANT.factors):
            self.raises(BadWorld, {"what": "plant", "sensor": 0}, World, thing, None, None)
        for thing in NO_SEQUENCES + (self.sensors + self.sensors[:2],):
            self.raises(BadWorld, {"what": "sensors", "sensor": 0}, World, PLANT, thing, None)
        two = Sensor((2,), Channel.clean(2))
        for thing in (None, 3, ONE_WORD, PLANT):
            self.raises(BadWorld, {"what": "sensor", "sensor": 1}, World, PLANT, [self.sensors[0], thing, two], 7)
        self.raises(BadWorld, {"what": "seen", "sensor": 2}, World, PLANT, self.sensors[:2] + [two, None], 7)
        short = Sensor((1,), Channel.clean(2))
        self.raises(BadWorld, {"what": "period", "sensor": 0}, World, PLANT, [short, two], 7)
        self.raises(BadLots, {"index": 0, "what": "many"}, World, PLANT, self.sensors, None)
        self.raises(BadLots, {"index": 1, "what": "lot"}, World, PLANT, self.sensors, [[0], 3])
        self.raises(BadLots, {"index": 0, "what": "sensor"}, World, PLANT, self.sensors, [[3], 3])

    def test_outcome_rows(self):
        world = self.world
        rows = [(a, b, c) for a in range(3) for b in range(2) for c in range(4)]
        self.assertEqual([world.row_of(number) for number in range(24)], rows)
        self.assertEqual([world.row_number(list(row)) for row in rows], list(range(24)))
        self.are_tuples(world.row_of(5))
        bare = World(PLANT, [])
        self.assertEqual((bare.row_number([]), bare.row_of(0)), (0, ()))

    def test_wrong_outcome_rows(self):
        for thing in NO_SEQUENCES + ([], (0, 0), (0, 0, 0, 0), (3, 0, 0), (0, -1, 0), (0, 0, True), (0, 0, None)):
            self.raises(BadOutcomes, {}, self.world.row_number, thing)
        for thing in NO_WHOLES + (-1, 24):
            self.raises(BadOutcomes, {}, self.world.row_of, thing)

    def test_20736_outcome_rows(self):
        world = clean_world((2, 1), 12, 4)
        self.assertEqual(world.outcome_rows, 20736)
        for number in range(0, 20736, 7):
            self.assertEqual(world.row_number(world.row_of(number)), number)
        self.assertEqual(world.row_of(20735), (11, 11, 11, 11))
        self.raises(BadOutcomes, {}, world.row_of, 20736)

    def test_outside_and_seers(self):
        self.assertEqual(self.world.outside([1, 0]), (2,))
        self.assertEqual(self.world.outside(()), (0, 1, 2))
        self.assertEqual(self.world.outside((0, 1, 2)), ())
        self.assertEqual([self.world.seers(mode) for mode in range(2)], [(0, 2), (0, 1)])
        for thing in NO_WHOLES + (-1, 2):
            self.raises(NoMode, {"mode": thing}, self.world.seers, thing)

    def test_uses(self):
        one, other = ONE_WORD.table
        self.assertEqual(self.world.uses(0, 1, 3), (other, one, other))
        self.assertEqual(self.world.uses(0, 10 ** 100, 2), (one, other))
        self.assertEqual(self.world.uses(2, 5, 0), ())
        self.assertEqual(len(self.world.uses(1, 0, 1000)), 1000)
        self.are_tuples(self.world.uses(0, 1, 3))
        for thing in NO_WHOLES + (-1,):
            self.raises(NoSensor, {"sensor": thing}, self.world.uses, thing, -1, -1)
            self.raises(BadPhase, {"phase": thing}, self.world.uses, 0, thing, -1)
            self.raises(BadTicks, {"ticks": thing}, self.world.uses, 0, 0, thing)
        self.raises(NoSensor, {"sensor": 3}, self.world.uses, 3, 0, 0)
        self.raises(BadTicks, {"ticks": 1001}, self.world.uses, 0, 0, 1001)

    def test_changed_plants(self):
        lots = self.world.lots
        self.assertEqual(self.world.with_unit(1, (3, 2)), World(PLANT.with_unit(1, (3, 2)), self.sensors, lots))
        self.assertEqual(self.world.with_sign(0, 3), World(PLANT.with_sign(0, 1), self.sensors, lots))
        self.assertEqual(self.world.with_plant(PLANT.with_sign(1, 1)), self.world.with_sign(1, 1))
        for thing in NO_RATIOS:
            self.raises(BadUnit, {"unit": thing}, self.world.with_unit, 0, thing)
        self.raises(NoMode, {"mode": 2}, self.world.with_unit, 2, None)
        self.raises(NoMode, {"mode": True}, self.world.with_sign, True, -1)
        self.raises(BadPhase, {"phase": -1}, self.world.with_sign, 0, -1)
        self.raises(BadWorld, {"what": "plant", "sensor": 0}, self.world.with_plant, None)
        self.raises(BadWorld, {"what": "seen", "sensor": 0}, self.world.with_plant, plain_plant((2, 1)))
        self.raises(BadWorld, {"what": "period", "sensor": 0}, self.world.with_plant, plain_plant((2, 1), (2, 1)))

    def test_turned_and_repeated(self):
        made = self.world.turned(3)
        sensors = [Sensor(sensor.seen, sensor.channel.turned(1)) for sensor in self.sensors]
        self.assertEqual(made, World(PLANT.turned(1), sensors, self.world.lots))
        self.assertEqual(made.turned(1), self.world)
        twice = self.world.repeated(2)
        sensors = [Sensor(sensor.seen, sensor.channel.repeated(2)) for sensor in self.sensors]
        self.assertEqual(twice, World(PLANT.repeated(2), sensors, self.world.lots))
        self.assertEqual(twice.period, 4)
        for thing in NO_WHOLES + (-1,):
            self.raises(BadPhase, {"phase": thing}, self.world.turned, thing)
            self.raises(BadTimes, {"repeats": thing}, self.world.repeated, thing)
        self.raises(BadTimes, {"repeats": 3}, self.world.repeated, 3)

    def test_with_lots(self):
        self.assertEqual(self.world.with_lots([[0, 1], [1]]), World(PLANT, self.sensors, [[0, 1]]))
        self.raises(BadLots, {"index": 0, "what": "lot"}, self.world.with_lots, [None])

    def test_with_channel(self):
        made = self.world.with_channel(1, ONE_WORD)
        self.assertEqual(made.sensors, (self.sensors[0], Sensor((1,), ONE_WORD), self.sensors[2]))
        self.assertEqual((made.plant, made.lots), (PLANT, self.world.lots))
        for thing in NO_WHOLES + (-1, 3):
            self.raises(NoSensor, {"sensor": thing}, self.world.with_channel, thing, None)
            self.raises(NoSensor, {"sensor": thing}, self.world.silenced, thing)
        self.raises(BadSensor, {"what": "channel"}, self.world.with_channel, 1, None)
        self.raises(BadWorld, {"what": "period", "sensor": 1}, self.world.with_channel, 1, Channel(5, [RING]))

    def test_silenced(self):
        made = self.world.silenced(0)
        self.assertEqual(made, self.world.with_channel(0, Channel(3, [[(0, 1, 2)] * 2] * 2)))

    def test_with_sensors(self):
        made = self.world.with_sensors([2, 0, 1])
        self.assertEqual(made.sensors, (self.sensors[2], self.sensors[0], self.sensors[1]))
        # The old sensors 0, 1, 2 are the new 1, 2, 0.
        self.assertEqual(made.lots, ((0, 2), (1,)))
        self.assertEqual(made.with_sensors((1, 2, 0)), self.world)
        for thing in NO_SEQUENCES + ([], [0, 1], [0, 1, 1], [0, 1, 3], [False, 1, 2], [0, 1, 2, 3]):
            self.raises(BadOrder, {"what": "sensors"}, self.world.with_sensors, thing)
