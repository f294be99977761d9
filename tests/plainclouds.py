"""Clouds by the plain words of the document, in fractions: every piece is cut at every threshold."""

import itertools
from fractions import Fraction


class PlainCloud:
    """A cloud as a list of (box, memories)."""

    def __init__(self, tick, state, registers, positions, pieces):
        self.tick = tick
        self.state = state
        self.registers = registers
        self.positions = positions
        self.pieces = pieces


def form_at(form, registers):
    return Fraction(*form[0]) + sum((Fraction(*multiple) * registers[at] for at, multiple in form[1]), Fraction(0))


def reply_at(coder, state, registers, memory, positions):
    recall, looks, replies = coder.rules[state]
    at = memory if recall else 0
    for mode, thresholds in looks:
        at = at * (len(thresholds) + 1) + sum(form_at(form, registers) <= positions[mode] for form in thresholds)
    word, behind = replies[at]
    return word, memory if behind is None else behind


def volume_at(box):
    volume = Fraction(1)
    for low, high in box:
        volume *= high - low
    return volume


def moved_by(world, program, state, registers, outcomes):
    """Return the next state, the next registers and the inputs."""
    state, changes, steps = program.controller.find_move(state, outcomes)
    inputs = [Fraction(0)] * world.plant.modes
    for mode, form in steps:
        inputs[mode] = form_at(form, registers)
    behind = list(registers)
    for register, form in changes:
        behind[register] = form_at(form, registers)
    return state, behind, inputs


def plain_first(world, program, modes, liars):
    """Return the outcomes of tick 0 and the cloud at tick 1."""
    registers = [Fraction(*one) for one in program.controller.registers]
    zeros = [Fraction(0)] * world.plant.modes
    outcomes, memories = [], []
    for at, (sensor, coder) in enumerate(zip(world.sensors, program.coders)):
        word, memory = reply_at(coder, program.controller.first, registers, coder.first, zeros)
        outcomes.append(sensor.channel.table[0][0 if at in liars else word][0])
        memories.append(memory)
    state, behind, inputs = moved_by(world, program, program.controller.first, registers, outcomes)
    box = []
    for mode in modes:
        push = Fraction(*world.plant.pushes[mode])
        box.append((inputs[mode] - push, inputs[mode] + push))
    positions = [None if mode in modes else one for mode, one in enumerate(inputs)]
    return tuple(outcomes), PlainCloud(1, state, behind, positions, [(tuple(box), tuple(memories))])


def plain_cells(program, modes, liars, cloud):
    """Yield (box, words, next memories) for every cell between all thresholds."""
    for box, memories in cloud.pieces:
        ends = [set(side) for side in box]
        for at, coder in enumerate(program.coders):
            for mode, thresholds in coder.rules[cloud.state][1] if at not in liars else ():
                for form in thresholds if mode in modes else ():
                    axis, value = modes.index(mode), form_at(form, cloud.registers)
                    if box[axis][0] < value < box[axis][1]:
                        ends[axis].add(value)
        rows = [list(zip(sorted(row), sorted(row)[1:])) for row in ends]
        for cell in itertools.product(*rows):
            positions = list(cloud.positions)
            for mode, (low, high) in zip(modes, cell):
                positions[mode] = (low + high) / 2
            replies = []
            for at, coder in enumerate(program.coders):
                told = reply_at(coder, cloud.state, cloud.registers, memories[at], positions) if at not in liars else (0, 0)
                replies.append(told)
            yield cell, [word for word, _ in replies], tuple(memory for _, memory in replies)


def plain_volumes(world, program, modes, liars, cloud):
    """Return the ascending list of (outcomes, volume)."""
    told = {}
    for cell, words, _ in plain_cells(program, modes, liars, cloud):
        tables = [sensor.channel.table[cloud.tick % world.period] for sensor in world.sensors]
        for row in itertools.product(*[table[word] for table, word in zip(tables, words)]):
            told[row] = told.get(row, Fraction(0)) + volume_at(cell)
    return sorted(told.items())


def plain_next(world, program, modes, liars, cloud, outcomes):
    """Return the cloud one tick later."""
    phase = cloud.tick % world.period
    state, registers, inputs = moved_by(world, program, cloud.state, cloud.registers, outcomes)
    factors = [Fraction(*row[phase]) for row in world.plant.factors]
    moved = []
    for cell, words, memories in plain_cells(program, modes, liars, cloud):
        if all(outcome in sensor.channel.table[phase][word] for outcome, sensor, word in zip(outcomes, world.sensors, words)):
            box = [sorted((factors[mode] * low + inputs[mode], factors[mode] * high + inputs[mode])) for mode, (low, high) in zip(modes, cell)]
            moved.append((tuple(map(tuple, box)), memories))
    positions = [None if one is None else one * factors[mode] + inputs[mode] for mode, one in enumerate(cloud.positions)]
    pieces = plain_widened(moved, Fraction(*world.plant.pushes[modes[0]]))
    return PlainCloud(cloud.tick + 1, state, registers, positions, pieces)


def plain_widened(pieces, push):
    """Return pieces widened along axis 0, cut into the columns that all ends on the other axes make."""
    axes = len(pieces[0][0])
    ends = [sorted({end for box, _ in pieces for end in box[axis]}) for axis in range(1, axes)]
    told = []
    for column in itertools.product(*[list(zip(row, row[1:])) for row in ends]):
        stack = []
        for box, memories in pieces:
            if all(low <= begin and end <= high for (low, high), (begin, end) in zip(box[1:], column)):
                stack.append((box[0], memories))
        for (low, high), memories in stack:
            below = push if low == min(side[0] for side, _ in stack) else 0
            above = push if high == max(side[1] for side, _ in stack) else 0
            told.append((((low - below, high + above),) + column, memories))
    return told
