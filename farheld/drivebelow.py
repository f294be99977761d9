"""Driving below: runs that take any program of a link beyond every bound below the least one."""

from farheld.errors import NoFit, NotBelow, TooFar
from farheld.fitting import fit_fault
from farheld.leastbound import (
    MOST_LENGTHS, check_bound, check_late, check_link, find_least, late_lengths, link_numbers, told_lengths,
)
from farheld.lines import Course, Pass, length_of, longest_parts, parts_by_outcome
from farheld.ranks import simplest_between
from farheld.ratios import ZERO, compare, greatest_of, least_of, make_ratio, minus, negative, over, plus, times
from farheld.running import Run


def ticks_below(world, bound, late=0):
    """Return the first tick whose late length is above a bound below the least one."""
    check_link(world)
    check_bound(bound)
    check_late(late)
    least = find_least(world, late)
    if least is not None and compare(bound, least.bound) >= 0:
        raise NotBelow(least.bound)
    for tick, length in enumerate(late_lengths(world, late, MOST_LENGTHS)):
        if compare(length, bound) > 0:
            return tick
    raise TooFar(MOST_LENGTHS)


def drive_below(world, program, bound, late=0):
    """Return a run of the delayed program that is beyond the bound behind its last tick."""
    check_link(world)
    fault = fit_fault(world, program)
    if fault is not None:
        raise NoFit(fault)
    drive = Drive(world, program, late, ticks_below(world, bound, late))
    return drive.run_beyond(bound)


class Drive:
    """A line that is led on by the outcomes that keep most of it; outcomes of the last ticks come too late."""

    def __init__(self, world, program, late, ticks):
        self._world = world
        self._program = program
        self._coder = program.coders[0]
        self._late = late
        self._ticks = ticks
        self._chosen = ticks - min(late, ticks)
        self._numbers = link_numbers(world)
        self._passes = []
        start = world.plant.starts[0]
        self._line = [(negative(start), start, self._coder.first)]
        self._course = Course(program, late)
        for due in told_lengths(world, self._chosen):
            self._pass_tick(due)

    def run_beyond(self, bound):
        """Return a run behind whose last tick the mode has a size above the bound."""
        shift = ZERO
        for tick in range(self._chosen, self._ticks):
            shift = plus(times(self._factor_at(tick), shift), self._course.input_behind(None))
        sign, point, memory = self._last_point(bound, shift)
        points = [point]
        for passed in reversed(self._passes):
            point, memory = passed.point_ahead(point, memory)
            points.append(point)
        return Run((point,), (), self._ticks_through(points[::-1], sign))

    def _factor_at(self, tick):
        return self._world.plant.factors[0][tick % self._world.period]

    def _pass_tick(self, due):
        """Keep the outcome of most of the line; of its parts as many as have their share of twice the told length."""
        tick = len(self._passes)
        phase = tick % self._world.period
        told = self._parts_told(self._world.sensors[0].channel.table[phase])
        outcomes = sorted(told)
        lengths = [length_of(told[outcome]) for outcome in outcomes]
        outcome = outcomes[lengths.index(greatest_of(lengths))]
        share = make_ratio(2, self._numbers[phase])
        parts = longest_parts(told[outcome], times(due, share))
        passed = Pass(parts, self._factor_at(tick), self._world.plant.pushes[0])
        self._line = passed.line_behind(self._course.input_behind(outcome))
        self._passes.append(passed)

    def _parts_told(self, row):
        """Return the parts of the line by the outcome that comes of their words."""
        if max(self._numbers) == 1:
            # Words never matter then, so neither do memories.
            return {row[0][0]: [(low, high, memory, memory) for low, high, memory in self._line]}
        return parts_by_outcome(self._coder, self._course, self._line, row)

    def _last_point(self, bound, shift):
        """Return (sign of the mode behind the last tick, point of the line, memory) from which the bound is passed."""
        left = self._ticks - self._chosen
        plant = self._world.plant
        for sign in (1, -1):
            factor = times(plant.carried(0, self._chosen, left), (sign, 1))
            rest = minus(minus(bound, plant.gathered(0, self._chosen, left)), times(shift, (sign, 1)))
            limit = over(rest, factor)
            low, high, memory = self._line[-1] if factor[0] > 0 else self._line[0]
            if low == high and compare(times(factor, low), rest) > 0:
                return (sign, low, memory)
            first, last = (greatest_of((low, limit)), high) if factor[0] > 0 else (low, least_of((high, limit)))
            if compare(first, last) < 0:
                return (sign, simplest_between(first, last), memory)
        return None

    def _ticks_through(self, points, sign):
        """Return the ticks that lead through the points, and then on with whole pushes to the side of the sign."""
        coder = self._coder
        course = Course(self._program, self._late)
        plant = self._world.plant
        position, memory = points[0], coder.first
        told = []
        for tick in range(self._ticks):
            word, memory = coder.say(course.state, course.registers, memory, (position,))
            outcome = self._world.sensors[0].channel.table[tick % plant.period][word][0]
            moved = plus(times(self._factor_at(tick), position), course.input_behind(outcome))
            if tick < self._chosen:
                push = minus(points[tick + 1], moved)
            else:
                carried = plant.carried(0, tick + 1, self._ticks - tick - 1)
                push = times(plant.pushes[0], (sign if carried[0] > 0 else -sign, 1))
            told.append(((word,), (outcome,), (push,)))
            position = plus(moved, push)
        return tuple(told)
