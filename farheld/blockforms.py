"""Forms of blocks: cuts, told stretches, inputs and next halves over the registers, which are the halves.

The register of a growing mode is its place among the growing modes.
"""

from farheld.blocks import middle_part, next_half_parts
from farheld.digits import count_cells
from farheld.forms import make_form
from farheld.ratios import ZERO, make_ratio, minus, negative, plus, size_of, times


def cut_forms(plan, mode):
    """Return the thresholds between the cells of a mode.

    All coders cut a mode in the same way, so a keeping can tell its cells by forms.
    """
    cells = count_cells(plan.split.counts, mode)
    told = []
    for cell in range(1, cells):
        told.append(make_form(ZERO, (_register_of(plan, mode), make_ratio(2 * cell - cells, cells))))
    return tuple(told)


def stretch_forms(plan, mode, cell, tick):
    """Return the ends of the told stretch of a cell, widened by the mode's push."""
    carried, gathered = plan.motion_until(mode, tick)
    part = make_ratio(1, count_cells(plan.split.counts, mode))
    wide = times(size_of(carried), part)
    beyond = plus(gathered, plan.world.plant.pushes[mode])
    middle = _middle_at(plan, mode, cell, tick)
    register = _register_of(plan, mode)
    return (
        make_form(negative(beyond), (register, minus(middle, wide))),
        make_form(beyond, (register, plus(middle, wide))),
    )


def input_forms(plan, cells):
    """Return the steps that take the told middle of each growing mode to 0 at the block's end."""
    told = []
    for mode in plan.world.plant.growing:
        middle = _middle_at(plan, mode, cells[mode], plan.ticks)
        told.append((mode, make_form(ZERO, (_register_of(plan, mode), negative(middle)))))
    return tuple(told)


def half_forms(plan, struck):
    """Return the changes by which the registers become the next halves."""
    told = []
    for register, mode in enumerate(plan.world.plant.growing):
        part, constant = next_half_parts(plan.world, plan.split, mode, struck)
        told.append((register, make_form(constant, (register, part))))
    return tuple(told)


def _middle_at(plan, mode, cell, tick):
    """Return the told middle of a cell at a tick as a multiple of the half."""
    carried, _ = plan.motion_until(mode, tick)
    return times(carried, middle_part(plan.split.counts, mode, cell))


def _register_of(plan, mode):
    return plan.world.plant.growing.index(mode)
