"""Blocks: what a mode can become in a block of a split, and the halves that bound it at each begin."""

from farheld.channels import use_kind
from farheld.digits import count_cells, count_told, multiplied
from farheld.errors import BadSplits
from farheld.ratios import (
    ZERO, compare, floor_of, greatest_of, make_ratio, minus, over, plus, size_of, times,
)
from farheld.sequences import is_sequence
from farheld.splits import Split, list_tasks, split_fault


def block_ticks(world, split):
    """Return the number of ticks of a block."""
    return split.periods * world.period


def told_ticks(world, split):
    """Return the number of telling ticks of a block."""
    return split.telling * world.period


def listed_ticks(world, split):
    """Return the number of listing ticks of a block."""
    return split.listing * world.period


def count_paths(world, split):
    """Return how many rows of outcomes of those who tell or help can come in a block."""
    paths = 1
    for sensor in world.outside(split.guess):
        many = world.outcomes[sensor]
        if count_told(split.counts, sensor) > 1:
            paths *= multiplied([many] * told_ticks(world, split))
        if list_tasks(world, split.guess, split.counts, sensor):
            paths *= multiplied([many] * listed_ticks(world, split))
    return paths


def list_checkers(world, split):
    """Return (sensor, check tick) for each checker of a split."""
    if not split.checked:
        return ()
    first = told_ticks(world, split) + listed_ticks(world, split)
    told = []
    for sensor in world.outside(split.guess):
        phase = _first_solid_phase(world.sensors[sensor].channel)
        if phase is not None and growing_seen(world, sensor):
            told.append((sensor, first + phase))
    return tuple(told)


def growing_seen(world, sensor):
    """Return the growing modes that a sensor sees."""
    return tuple([mode for mode in world.sensors[sensor].seen if mode in world.plant.growing])


def find_cell(counts, mode, half, position):
    """Return the cell of a position between minus and plus the half."""
    last = count_cells(counts, mode) - 1
    if half[0] == 0:
        return last if position[0] >= 0 else 0
    # The thresholds half * (2 * c - n) / n that are at most the position are those up to this c.
    place = over(times(plus(position, half), (last + 1, 1)), times((2, 1), half))
    return max(0, min(last, floor_of(place)))


def cell_middle(counts, mode, half, cell):
    """Return the middle of a cell."""
    return times(half, middle_part(counts, mode, cell))


def middle_part(counts, mode, cell):
    """Return the middle of a cell as a part of the half."""
    cells = count_cells(counts, mode)
    return make_ratio(2 * cell + 1 - cells, cells)


def told_middle(world, split, mode, half, cell, tick):
    """Return the middle of the told stretch of a cell at a tick of the block."""
    return times(world.plant.carried(mode, 0, tick), cell_middle(split.counts, mode, half, cell))


def told_half(world, split, mode, half, tick):
    """Return the half of the told stretch of a cell at a tick of the block."""
    part = make_ratio(1, count_cells(split.counts, mode))
    return plus(times(world.plant.growth(mode, 0, tick), times(half, part)), world.plant.gathered(mode, 0, tick))


def find_extra(world, split, mode):
    """Return what a checker may overlook of a mode until the block's end."""
    plant = world.plant
    extra = ZERO
    if mode not in plant.growing:
        return extra
    ticks = block_ticks(world, split)
    for sensor, tick in list_checkers(world, split):
        if mode in world.sensors[sensor].seen:
            extra = greatest_of((extra, times(plant.growth(mode, tick, ticks - tick), plant.pushes[mode])))
    return extra


def next_half(world, split, mode, half, struck):
    """Return the half at the begin of the next block."""
    part, constant = next_half_parts(world, split, mode, struck)
    return plus(times(part, half), constant)


def next_half_parts(world, split, mode, struck):
    """Return (multiple of the half, constant) of the half at the begin of the next block."""
    plant = world.plant
    ticks = block_ticks(world, split)
    growth = plant.growth(mode, 0, ticks)
    gathered = plant.gathered(mode, 0, ticks)
    if struck or mode not in plant.growing:
        return (growth, gathered)
    part = times(growth, make_ratio(1, count_cells(split.counts, mode)))
    return (part, plus(gathered, find_extra(world, split, mode)))


def rest_half(world, split, mode):
    """Return the half that a block that is not struck leaves as it is."""
    part, constant = next_half_parts(world, split, mode, False)
    return over(constant, minus((1, 1), part))


def guess_halves(world, splits):
    """Return for each lot the row of halves, by mode, that bound the begins of its blocks."""
    check_splits(world, splits)
    rows = []
    reached = world.plant.starts
    for split in splits:
        rests = [rest_half(world, split, mode) for mode in range(world.plant.modes)]
        rows.append(tuple([greatest_of(both) for both in zip(rests, reached)]))
        reached = [next_half(world, split, mode, half, True) for mode, half in enumerate(rows[-1])]
    return tuple(rows)


def told_bounds(world, splits):
    """Return by mode the bound that no block passes at any tick."""
    return bounds_of(world, splits, guess_halves(world, splits))


def bounds_of(world, splits, halves):
    """Return by mode the bound that no block passes if halves bound the begins of the blocks of each lot."""
    told = []
    for mode in range(world.plant.modes):
        reaches = []
        for split, row in zip(splits, halves):
            reaches.append(_greatest_reach(world.plant, mode, row[mode], block_ticks(world, split)))
        told.append(greatest_of(reaches))
    return tuple(told)


def _greatest_reach(plant, mode, half, ticks):
    """Return the greatest size that a mode from within a half can have at the begins of so many ticks."""
    # From tick to tick growth * half + gathered is multiplied by the factor's size, and the push is added.
    reach = half
    greatest = half
    for tick in range(ticks - 1):
        reach = plus(times(size_of(plant.factors[mode][tick % plant.period]), reach), plant.pushes[mode])
        if compare(reach, greatest) > 0:
            greatest = reach
    return greatest


def check_splits(world, splits):
    """Raise BadSplits unless these are right splits, one for each lot of the world, in order."""
    many = len(world.lots)
    if not is_sequence(splits, many, many) or not all([isinstance(split, Split) for split in splits]):
        raise BadSplits(0)
    for place, split in enumerate(splits):
        if split_fault(world, split) is not None or split.guess != world.lots[place]:
            raise BadSplits(place)


def _first_solid_phase(channel):
    for phase, row in enumerate(channel.table):
        if use_kind(row) == "solid":
            return phase
    return None
