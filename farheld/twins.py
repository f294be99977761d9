"""Twins: two runs that nobody can tell apart, with the liars of one in the place of those of the other."""

from farheld.errors import BadBound, NoBar, TooLong
from farheld.ratios import ZERO, compare, is_ratio, make_ratio, negative, plus, times
from farheld.running import Run, inputs_of, registers_behind
from farheld.verdicts import bar_fault

MOST_TICKS = 1000
TWO = (2, 1)


def twin_gap(world, bar, ticks):
    """Return how far apart the bar's mode is in the two runs behind so many ticks."""
    return times(TWO, world.plant.gathered(bar.mode, 0, ticks))


def twin_ticks(world, bar, bound):
    """Return the least number of ticks behind which one of the two runs is beyond the bound."""
    check_drive(world, bar, bound)
    push = world.plant.pushes[bar.mode]
    row = world.plant.factors[bar.mode]
    # What is gathered behind t ticks is top / bottom pushes; it is not brought to lowest terms.
    due = times(bound, make_ratio(push[1], push[0]))
    top, bottom = 0, 1
    for tick in range(MOST_TICKS):
        factor = row[tick % len(row)]
        bottom *= factor[1]
        top = top * abs(factor[0]) + bottom
        if top * due[1] > due[0] * bottom:
            return tick + 1
    raise TooLong(MOST_TICKS)


def twin_runs(world, program, bar, ticks):
    """Return two runs of so many ticks with the same outcomes, the bar's first and second lot lying in them."""
    twins = Twins(world, program, bar)
    first, second = [], []
    for tick in range(ticks):
        one, other = twins.next_ticks(tick)
        first.append(one)
        second.append(other)
    start = (ZERO,) * world.plant.modes
    return (Run(start, tuple(bar.first), tuple(first)), Run(start, tuple(bar.second), tuple(second)))


class Twins:
    """Two runs side by side: one state and one row of registers, but positions and memories of their own."""

    def __init__(self, world, program, bar):
        self.world = world
        self.program = program
        self.bar = bar
        self.state = program.controller.first
        self.registers = program.controller.registers
        self.positions = [(ZERO,) * world.plant.modes] * 2
        self.memories = [[coder.first for coder in program.coders]] * 2

    def next_ticks(self, tick):
        """Return the tick of each run and go on behind it."""
        said = [self._replies(which) for which in (0, 1)]
        words = [self._words_sent(said, which) for which in (0, 1)]
        outcomes = self._least_common(tick, words)
        pushes = self._pushes_at(tick)
        self.memories = [[memory for _, memory in replies] for replies in said]
        self._move(tick, outcomes, pushes)
        return [(words[which], outcomes, pushes[which]) for which in (0, 1)]

    def _replies(self, which):
        told = []
        for coder, memory in zip(self.program.coders, self.memories[which]):
            told.append(coder.say(self.state, self.registers, memory, self.positions[which]))
        return told

    def _words_sent(self, said, which):
        """Return the words of a run: sensors of a lot send what their coder says in the other lot's run."""
        words = []
        for sensor in range(len(self.world.sensors)):
            source = which
            if sensor in self.bar.first:
                source = 1
            elif sensor in self.bar.second:
                source = 0
            words.append(said[source][sensor][0])
        return tuple(words)

    def _least_common(self, tick, words):
        outcomes = []
        for at, sensor in enumerate(self.world.sensors):
            common = sensor.channel.common(tick, words[0][at], words[1][at])
            outcomes.append(common[0])
        return tuple(outcomes)

    def _pushes_at(self, tick):
        """Return the pushes of both runs, which drive the bar's mode apart."""
        plant = self.world.plant
        mode = self.bar.mode
        top, _ = plant.factors[mode][tick % plant.period]
        gap = compare(self.positions[0][mode], self.positions[1][mode])
        push = plant.pushes[mode]
        if top * gap < 0:
            push = negative(push)
        rest = [ZERO] * plant.modes
        pushes = []
        for one in (push, negative(push)):
            rest[mode] = one
            pushes.append(tuple(rest))
        return pushes

    def _move(self, tick, outcomes, pushes):
        plant = self.world.plant
        move = self.program.controller.find_move(self.state, outcomes)
        inputs = inputs_of(move, self.registers, plant.modes)
        behind = []
        for which in (0, 1):
            row = []
            for mode, position in enumerate(self.positions[which]):
                moved = times(position, plant.factors[mode][tick % plant.period])
                row.append(plus(plus(moved, inputs[mode]), pushes[which][mode]))
            behind.append(tuple(row))
        self.positions = behind
        self.registers = registers_behind(move, self.registers)
        self.state = move[0]


def check_drive(world, bar, bound):
    """Raise NoBar unless the bar shows what it says, then BadBound unless the bound is a ratio above 0."""
    fault = bar_fault(world, bar)
    if fault is not None:
        raise NoBar(fault)
    if not is_ratio(bound) or bound[0] <= 0:
        raise BadBound(bound)
