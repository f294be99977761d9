"""Least bounds: what the best program can keep one mode within over one clean channel."""

from farheld.channels import MOST_WORDS, Channel
from farheld.errors import BadBound, BadLate, BadTicks, NotLink
from farheld.fitting import MOST_LATE
from farheld.ratios import (
    ONE, ZERO, compare, greatest_of, is_ratio, is_whole, make_ratio, minus, over, plus, product_of, times,
)
from farheld.worlds import Sensor, World

MOST_LENGTHS = 200


class Least:
    """The least bound, the greatest told length of each phase, the limits, and whether the bound is reached."""

    def __init__(self, bound, lengths, limits, reached):
        self.bound = bound
        self.lengths = lengths
        self.limits = limits
        self.reached = reached

    def __eq__(self, other):
        if not isinstance(other, Least):
            return False
        if self.bound != other.bound or self.lengths != other.lengths:
            return False
        return self.limits == other.limits and self.reached == other.reached


def check_link(world):
    """Raise NotLink unless this is a world of one mode and one sensor, with one outcome for each word and no liars."""
    if world.plant.modes != 1:
        raise NotLink("mode")
    if len(world.sensors) != 1:
        raise NotLink("sensor")
    if world.lots != ((),):
        raise NotLink("lot")
    for row in world.sensors[0].channel.table:
        if not all([len(heard) == 1 for heard in row]):
            raise NotLink("channel")


def link_numbers(world):
    """Return the number of unlike outcomes of each phase."""
    check_link(world)
    return tuple([len(outcomes_at(world, phase)) for phase in range(world.period)])


def outcomes_at(world, phase):
    """Return the unlike outcomes of a link's phase, ascending."""
    return sorted(set([heard[0] for heard in world.sensors[0].channel.table[phase]]))


def told_lengths(world, ticks):
    """Return the told lengths of the first ticks."""
    check_link(world)
    check_lengths(ticks)
    return _lengths_from(world, world.plant.starts[0], ticks)


def late_lengths(world, late, ticks):
    """Return the late lengths of the first ticks."""
    check_link(world)
    check_late(late)
    check_lengths(ticks)
    told = _lengths_from(world, world.plant.starts[0], ticks)
    return tuple([late_length(world, told[tick - min(late, tick)], tick, min(late, tick)) for tick in range(ticks)])


def late_length(world, length, tick, late):
    """Return what a length becomes in the last so many ticks before a tick if nothing is told in them."""
    plant = world.plant
    return plus(times(plant.growth(0, tick - late, late), length), plant.gathered(0, tick - late, late))


def find_least(world, late=0):
    """Return the least bound with what shows it, None if there is none."""
    check_link(world)
    check_late(late)
    rate = _rate_of(world)
    if compare(rate, ONE) >= 0:
        return None
    period = world.period
    first = _lengths_from(world, world.plant.starts[0], period)
    limits = _limits_of(world, rate)
    lengths = tuple([greatest_of(both) for both in zip(limits, first)])
    # The first ticks come ahead of all that is told; later ones can be as long as the lengths let them.
    tried = [(late_length(world, first[0], tick, tick), True) for tick in range(late)]
    for phase in range(period):
        tried.append((late_length(world, lengths[phase], phase + late, late), lengths[phase] == first[phase]))
    bound = greatest_of([length for length, _ in tried])
    return Least(bound, lengths, limits, any([met and length == bound for length, met in tried]))


def greatest_late(world, bound):
    """Return the greatest lateness whose least bound is at most the bound, None if there is none."""
    check_link(world)
    check_bound(bound)
    found = None
    for late in range(MOST_LATE + 1):
        if _is_least_within(world, late, bound):
            found = late
    return found


def fewest_words(plant, bound):
    """Return the least number of clean words over which a plant has a least bound of at most the bound, else None."""
    if plant.modes != 1:
        raise NotLink("mode")
    check_bound(bound)
    for words in range(1, MOST_WORDS + 1):
        world = World(plant, [Sensor((0,), Channel.clean(words, plant.period))])
        if _is_least_within(world, 0, bound):
            return words
    return None


def check_late(late):
    """Raise BadLate unless this is a whole number from 0 to 3."""
    if not is_whole(late, 0, MOST_LATE):
        raise BadLate(late)


def check_lengths(ticks):
    """Raise BadTicks unless this is a whole number from 0 to 200."""
    if not is_whole(ticks, 0, MOST_LENGTHS):
        raise BadTicks(ticks)


def check_bound(bound):
    """Raise BadBound unless this is a ratio above 0."""
    if not is_ratio(bound) or bound[0] <= 0:
        raise BadBound(bound)


def _is_least_within(world, late, bound):
    least = find_least(world, late)
    return least is not None and compare(least.bound, bound) <= 0


def _parts_of(world):
    """Return by phase what a told length is multiplied by in a tick: the size of the factor, shared by the number."""
    parts = []
    for factor, number in zip(world.plant.factors[0], link_numbers(world)):
        parts.append(make_ratio(abs(factor[0]), factor[1] * number))
    return parts


def _rate_of(world):
    """Return what a told length is multiplied by in a period."""
    return product_of(_parts_of(world))


def _lengths_from(world, start, ticks):
    parts = _parts_of(world)
    told = []
    length = start
    for tick in range(ticks):
        told.append(length)
        length = plus(times(parts[tick % len(parts)], length), world.plant.pushes[0])
    return tuple(told)


def _limits_of(world, rate):
    """Return by phase the told length that comes back to itself behind a period."""
    behind = _lengths_from(world, ZERO, world.period + 1)[-1]
    # A period makes rate * length + behind of a length ahead of phase 0.
    limit = over(behind, minus(ONE, rate))
    return _lengths_from(world, limit, world.period)
