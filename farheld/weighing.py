"""Weighings: whether a world is kept if other lots may lie in it and some sensors are silenced.

A group of sensors is told as a mask: it has the bit of each sensor in it.
"""

from farheld.ratios import compare, product_of
from farheld.verdicts import list_sets, list_watchers, period_growth, period_number


class Weighing:
    """What a world without some of its sensors still has: RATE for all sets, TRUST for all growing modes."""

    def __init__(self, world):
        self._world = world
        self._numbers = [period_number(world, sensor) for sensor in range(len(world.sensors))]
        self._growths = [(modes, period_growth(world, modes)) for modes in list_sets(world.plant.modes)]
        self._rates = {}
        self._trusts = {}

    def is_kept(self, lots, silent):
        """Tell whether nothing bars the world with these lots and with a group silenced."""
        for at, first in enumerate(lots):
            if not self._has_rate(first | silent):
                return False
            for second in lots[at:]:
                if not self._has_trust(first | second | silent):
                    return False
        return True

    def _has_rate(self, gone):
        if gone not in self._rates:
            self._rates[gone] = all([self._is_told(gone, modes, growth) for modes, growth in self._growths])
        return self._rates[gone]

    def _has_trust(self, gone):
        if gone not in self._trusts:
            out = group_of(gone)
            watched = [list_watchers(self._world, out, (), mode) for mode in self._world.plant.growing]
            self._trusts[gone] = all([len(watchers) > 0 for watchers in watched])
        return self._trusts[gone]

    def _is_told(self, gone, modes, growth):
        numbers = []
        for sensor in self._world.outside(group_of(gone)):
            if any([mode in modes for mode in self._world.sensors[sensor].seen]):
                numbers.append(self._numbers[sensor])
        return compare(growth, product_of(numbers)) < 0


def mask_of(group):
    """Return the mask of a group."""
    return sum([1 << sensor for sensor in group])


def group_of(mask):
    """Return the group of a mask as an ascending tuple."""
    return tuple([sensor for sensor in range(mask.bit_length()) if mask >> sensor & 1])


def all_masks(world):
    """Return the masks of all groups of a world, the greater ones later."""
    return list(range(1 << len(world.sensors)))
