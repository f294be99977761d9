"""Driving out: runs of a barred world that take any program beyond any bound."""

from farheld.clouds import first_cloud, greatest_cloud, trace_run
from farheld.errors import TooLong
from farheld.ranks import simplest_between
from farheld.ratios import (
    ONE, compare, greatest_of, least_of, negative, over, plus, power_of, product_of, size_of, sum_of, times,
)
from farheld.running import beyond
from farheld.twins import MOST_TICKS, TWO, check_drive, twin_runs, twin_ticks
from farheld.verdicts import RateBar, list_tellers


def ticks_needed(world, bar, bound):
    """Return the number of ticks within which every program is driven beyond the bound."""
    if not isinstance(bar, RateBar):
        return twin_ticks(world, bar, bound)
    check_drive(world, bar, bound)
    due_top, due_bottom = power_of(times(TWO, bound), len(bar.modes))
    top, bottom = product_of([times(TWO, world.plant.pushes[mode]) for mode in bar.modes])
    gains = [_gain_in(world, bar, bound, phase) for phase in range(world.period)]
    for tick in range(1, MOST_TICKS + 1):
        # The volume is not brought to lowest terms, which would be dear in so many ticks.
        if top * due_bottom > due_top * bottom:
            return tick
        gain = gains[tick % world.period]
        top *= gain[0]
        bottom *= gain[1]
    raise TooLong(MOST_TICKS)


def drive_out(world, program, bar, bound):
    """Return a run of at most ticks_needed ticks that goes beyond the bound."""
    ticks = ticks_needed(world, bar, bound)
    if isinstance(bar, RateBar):
        return _drive_clouds(world, program, bar, bound, ticks)
    first, second = twin_runs(world, program, bar, ticks)
    return second if beyond(world, program, first, bound) is None else first


def _gain_in(world, bar, bound, phase):
    """Return what the volume of a cloud is at least multiplied by in a tick of a phase."""
    gain = plus(ONE, over(world.plant.pushes[bar.modes[0]], bound))
    for mode in bar.modes:
        gain = times(gain, size_of(world.plant.factors[mode][phase]))
    for row, sensor in zip(bar.weights, list_tellers(world, bar.lot, bar.modes)):
        use = world.sensors[sensor].channel.table[phase]
        gain = times(gain, least_of([sum_of([row[phase][outcome] for outcome in heard]) for heard in use]))
    return gain


def _drive_clouds(world, program, bar, bound, ticks):
    """Return the run to a point beyond the bound, in the first cloud that has one."""
    clouds = [first_cloud(world, program, bar.modes, bar.lot)]
    point = _point_beyond(clouds[-1], bound)
    while point is None and len(clouds) < ticks:
        clouds.append(greatest_cloud(world, program, clouds[-1]))
        point = _point_beyond(clouds[-1], bound)
    return trace_run(world, program, clouds, point)


def _point_beyond(cloud, bound):
    """Return a point of a cloud at which a mode has a size above the bound, None if there is none."""
    least = negative(bound)
    for piece in cloud.pieces:
        point = [simplest_between(low, high) for low, high in piece.sides]
        for axis, (low, high) in enumerate(piece.sides):
            if compare(high, bound) > 0:
                point[axis] = simplest_between(greatest_of((low, bound)), high)
                return tuple(point)
            if compare(low, least) < 0:
                point[axis] = simplest_between(low, least_of((high, least)))
                return tuple(point)
    return None
