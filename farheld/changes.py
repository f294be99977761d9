"""Changes: worlds that come of a world by one step."""

from farheld.channels import Channel
from farheld.errors import LastMode, LastOutcome, NoOutcome
from farheld.lots import known_lot
from farheld.plants import Plant, check_phase
from farheld.ratios import is_whole
from farheld.worlds import Sensor, World


def add_sensor(world, sensor):
    """Return the world with one more sensor behind the others, in no lot."""
    return World(world.plant, world.sensors + (sensor,), world.lots)


def add_lot(world, lot):
    """Return the world with one more lot."""
    return world.with_lots(world.lots + (lot,))


def drop_lot(world, lot):
    """Return the world without one of its lots."""
    dropped = known_lot(lot, world.lots)
    return world.with_lots([other for other in world.lots if other != dropped])


def leave_out_mode(world, mode):
    """Return the world without a mode and without the sensors that see nothing else."""
    plant = world.plant
    plant.check_mode(mode)
    if plant.modes == 1:
        raise LastMode()
    kept = [at for at, sensor in enumerate(world.sensors) if sensor.seen != (mode,)]
    sensors = [_blinded(world.sensors[at], mode) for at in kept]
    lots = [[kept.index(sensor) for sensor in lot if sensor in kept] for lot in world.lots]
    less = Plant(_without(plant.factors, mode), _without(plant.pushes, mode), _without(plant.starts, mode))
    return World(less, sensors, lots)


def clear_outcome(world, sensor, phase, word, outcome):
    """Return the world in which an outcome can no longer come of a word in a phase."""
    world.check_sensor(sensor)
    check_phase(phase)
    channel = world.sensors[sensor].channel
    at = phase % channel.period
    if not is_whole(word, 0, channel.words - 1) or not is_whole(outcome):
        raise NoOutcome(word, outcome)
    heard = channel.table[at][word]
    if outcome not in heard:
        raise NoOutcome(word, outcome)
    if len(heard) == 1:
        raise LastOutcome(word)
    table = [list(row) for row in channel.table]
    table[at][word] = [other for other in heard if other != outcome]
    return world.with_channel(sensor, Channel(channel.outcomes, table))


def put_factor(world, mode, phase, factor):
    """Return the world in which a mode has another factor in a phase."""
    plant = world.plant
    plant.check_mode(mode)
    check_phase(phase)
    rows = [list(row) for row in plant.factors]
    rows[mode][phase % plant.period] = factor
    return world.with_plant(Plant(rows, plant.pushes, plant.starts))


def _blinded(sensor, mode):
    """Return a sensor that no longer sees a mode, where later modes have lesser numbers."""
    seen = [other if other < mode else other - 1 for other in sensor.seen if other != mode]
    return Sensor(seen, sensor.channel)


def _without(row, place):
    return row[:place] + row[place + 1:]
