"""Programs that several tests draw or begin with."""

import itertools

from farheld.channels import Channel
from farheld.forms import make_form
from farheld.plants import Plant
from farheld.programs import Coder, Controller, Program
from farheld.ratios import make_ratio
from farheld.worlds import Sensor, World
from tests.test_shares import some_use


def some_ratio(source, size=4, bottom=3):
    return make_ratio(source.randint(-size, size), source.randint(1, bottom))


def some_form(source, registers, size=4):
    parts = [(source.randrange(registers), some_ratio(source, 1, 2)) for _ in range(source.randint(0, 2))] if registers else []
    return make_form(some_ratio(source, size), *parts)


def some_parts(source, below, registers, size=4):
    numbers = sorted(source.sample(range(below), source.randint(0, below)))
    return tuple((number, some_form(source, registers, size)) for number in numbers)


def some_controller(source, outcomes, modes, states=None, registers=None):
    states = source.randint(1, 3) if states is None else states
    registers = source.randint(0, 3) if registers is None else registers
    rows = []
    for _ in range(states):
        heeds = sorted(source.sample(range(len(outcomes)), source.randint(0, len(outcomes))))
        moves = []
        for _ in itertools.product(*[range(outcomes[sensor]) for sensor in heeds]):
            changes = some_parts(source, registers, registers, 2)
            moves.append((source.randrange(states), changes, some_parts(source, modes, registers)))
        rows.append((tuple(heeds), tuple(moves)))
    first = [some_ratio(source) for _ in range(registers)]
    return Controller(outcomes, modes, first, rows, source.randrange(states))


def some_coder(source, words, seen, states, registers, memories=None, most=3):
    memories = source.randint(1, 3) if memories is None else memories
    words = source.randint(1, words)
    rules = []
    for _ in range(states):
        looks = []
        for _ in range(source.randint(0, 2) if seen else 0):
            looks.append((source.choice(seen), [some_form(source, registers) for _ in range(source.randint(0, most))]))
        recall = source.random() < 0.5
        many = memories if recall else 1
        for _, thresholds in looks:
            many *= len(thresholds) + 1
        nexts = [None] + list(range(memories))
        replies = [(source.randrange(words), source.choice(nexts)) for _ in range(many)]
        rules.append((recall, looks, replies))
    return Coder(words, seen, rules, memories, source.randrange(memories))


def some_program(source, world, **named):
    controller = some_controller(source, world.outcomes, world.plant.modes, **named)
    coders = []
    for sensor in world.sensors:
        seen = sorted(source.sample(sensor.seen, source.randint(0, len(sensor.seen))))
        coders.append(some_coder(source, sensor.channel.words, seen, len(controller), len(controller.registers)))
    return Program(controller, coders)


def some_plant_world(source, modes=None, sensors=None, words=3, outcomes=3, size=3):
    """Return a world with starts above 0 and small channels."""
    modes = source.randint(1, 3) if modes is None else modes
    period = source.randint(1, 2)
    rows = [[make_ratio(source.choice((-size, -1, 1, 2, size)), source.choice((1, 1, 2))) for _ in range(period)] for _ in range(modes)]
    pushes = [make_ratio(source.randint(1, 3), source.randint(1, 2)) for _ in range(modes)]
    starts = [make_ratio(source.randint(0, 3), source.randint(1, 2)) for _ in range(modes)]
    told = []
    for _ in range(source.randint(0, 3) if sensors is None else sensors):
        use_words, use_outcomes = source.randint(1, words), source.randint(1, outcomes)
        table = [some_use(source, use_words, use_outcomes) for _ in range(period)]
        seen = sorted(source.sample(range(modes), source.randint(1, modes)))
        told.append(Sensor(seen, Channel(use_outcomes, table)))
    lots = [source.sample(range(len(told)), source.randint(0, min(2, len(told)))) for _ in range(source.randint(0, 3))]
    return World(Plant(rows, pushes, starts), told, lots)


def some_run(source, world, program, ticks, start=None):
    """Return the start, the liars and the picks of a drawn run."""
    starts = world.plant.starts
    start = [make_ratio(top * source.randint(-3, 3), bottom * 3) for top, bottom in starts] if start is None else start
    lot = source.choice(world.lots)
    liars = tuple(sorted(source.sample(lot, source.randint(0, len(lot)))))
    picks = []
    for _ in range(ticks):
        lies = [source.randrange(world.sensors[liar].channel.words) for liar in liars]
        choices = [source.randint(0, 20) for _ in world.sensors]
        pushes = [make_ratio(top * source.randint(-2, 2), bottom * 2) for top, bottom in world.plant.pushes]
        picks.append((lies, choices, pushes))
    return (start, liars, picks)
