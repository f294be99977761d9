"""Worlds: a plant, its sensors, and the lots of sensors that may lie."""

from farheld.channels import Channel
from farheld.errors import BadOrder, BadOutcomes, BadSensor, BadWorld, NoSensor
from farheld.lots import least_lots
from farheld.plants import MOST_MODES, Plant, check_phase, check_ticks
from farheld.ratios import is_whole
from farheld.sequences import is_ascending, is_order, is_sequence, places_of

MOST_SENSORS = 4


class Sensor:
    """The modes that a sensor sees and the channel that it speaks over."""

    def __init__(self, seen, channel):
        if not is_ascending(seen, 1, MOST_MODES, MOST_MODES):
            raise BadSensor("seen")
        if not isinstance(channel, Channel):
            raise BadSensor("channel")
        self.seen = tuple(seen)
        self.channel = channel

    def __eq__(self, other):
        if not isinstance(other, Sensor):
            return False
        return self.seen == other.seen and self.channel == other.channel


class World:
    """A plant with up to four sensors and the least list of the lots of those that may lie."""

    def __init__(self, plant, sensors, lots=()):
        _check_world(plant, sensors)
        self.plant = plant
        self.sensors = tuple(sensors)
        self.lots = least_lots(lots, len(self.sensors))
        self.period = plant.period
        self.outcomes = tuple([sensor.channel.outcomes for sensor in self.sensors])
        rows = 1
        for many in self.outcomes:
            rows *= many
        self.outcome_rows = rows

    def __eq__(self, other):
        if not isinstance(other, World):
            return False
        return self.plant == other.plant and self.sensors == other.sensors and self.lots == other.lots

    def row_number(self, row):
        """Return the number of an outcome row."""
        if not is_sequence(row, len(self.outcomes), len(self.outcomes)):
            raise BadOutcomes()
        number = 0
        for outcome, many in zip(row, self.outcomes):
            if not is_whole(outcome, 0, many - 1):
                raise BadOutcomes()
            number = number * many + outcome
        return number

    def row_of(self, number):
        """Return the outcome row that has a number."""
        if not is_whole(number, 0, self.outcome_rows - 1):
            raise BadOutcomes()
        row = []
        rest = number
        for many in self.outcomes[::-1]:
            row.append(rest % many)
            rest = rest // many
        return tuple(row[::-1])

    def outside(self, lot):
        """Return the sensors that are not in a lot."""
        return tuple([sensor for sensor in range(len(self.sensors)) if sensor not in lot])

    def seers(self, mode):
        """Return the sensors that see a mode."""
        self.plant.check_mode(mode)
        return tuple([at for at, sensor in enumerate(self.sensors) if mode in sensor.seen])

    def uses(self, sensor, phase, ticks):
        """Return what a sensor's channel does in so many ticks from a phase on."""
        self.check_sensor(sensor)
        check_phase(phase)
        check_ticks(ticks)
        first = phase % self.period
        table = self.sensors[sensor].channel.table
        return tuple([table[tick % self.period] for tick in range(first, first + ticks)])

    def with_unit(self, mode, unit):
        """Return the world with a mode measured in another unit."""
        return self.with_plant(self.plant.with_unit(mode, unit))

    def with_sign(self, mode, phase):
        """Return the world in which a factor has the other sign."""
        return self.with_plant(self.plant.with_sign(mode, phase))

    def turned(self, phases):
        """Return the world that begins so many phases later."""
        plant = self.plant.turned(phases)
        sensors = [Sensor(sensor.seen, sensor.channel.turned(phases)) for sensor in self.sensors]
        return World(plant, sensors, self.lots)

    def repeated(self, repeats):
        """Return the world with its period so many times as long."""
        plant = self.plant.repeated(repeats)
        sensors = [Sensor(sensor.seen, sensor.channel.repeated(repeats)) for sensor in self.sensors]
        return World(plant, sensors, self.lots)

    def with_plant(self, plant):
        """Return the world with another plant."""
        return World(plant, self.sensors, self.lots)

    def with_lots(self, lots):
        """Return the world with other lots."""
        return World(self.plant, self.sensors, lots)

    def with_channel(self, sensor, channel):
        """Return the world in which a sensor speaks over another channel."""
        self.check_sensor(sensor)
        sensors = list(self.sensors)
        sensors[sensor] = Sensor(sensors[sensor].seen, channel)
        return World(self.plant, sensors, self.lots)

    def silenced(self, sensor):
        """Return the world in which a sensor's channel is silenced."""
        self.check_sensor(sensor)
        return self.with_channel(sensor, self.sensors[sensor].channel.silenced())

    def with_sensors(self, order):
        """Return the world with its sensors in another order."""
        if not is_order(order, len(self.sensors)):
            raise BadOrder("sensors")
        names = places_of(order)
        lots = [[names[sensor] for sensor in lot] for lot in self.lots]
        return World(self.plant, [self.sensors[old] for old in order], lots)

    def check_sensor(self, sensor):
        """Raise NoSensor unless this is a sensor of the world."""
        if not is_whole(sensor, 0, len(self.sensors) - 1):
            raise NoSensor(sensor)


def _check_world(plant, sensors):
    if not isinstance(plant, Plant):
        raise BadWorld("plant", 0)
    if not is_sequence(sensors, 0, MOST_SENSORS):
        raise BadWorld("sensors", 0)
    for at, sensor in enumerate(sensors):
        if not isinstance(sensor, Sensor):
            raise BadWorld("sensor", at)
        if sensor.seen[-1] >= plant.modes:
            raise BadWorld("seen", at)
        if sensor.channel.period != plant.period:
            raise BadWorld("period", at)
