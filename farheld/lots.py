"""Lots: the groups of sensors that may lie together."""

from farheld.errors import BadLots, NoLot
from farheld.ratios import is_whole
from farheld.sequences import is_sequence

MOST_LOTS = 16


def least_lots(lots, sensors):
    """Return the ascending tuple of the lots that lie within no other lot, ((),) if there are none."""
    if not is_sequence(lots, 0, MOST_LOTS):
        raise BadLots(0, "many")
    for index, lot in enumerate(lots):
        _check_lot(index, lot, sensors)
    told = [tuple(sorted(set(lot))) for lot in lots]
    least = [lot for lot in sorted(set(told)) if not _is_part(lot, told)]
    return tuple(least) if least else ((),)


def lies_within(group, lots):
    """Tell whether one lot holds all sensors of a group."""
    return any([_holds(lot, group) for lot in lots])


def known_lot(thing, lots):
    """Return the lot of a tuple of lots that a tuple or a list tells, or raise NoLot."""
    told = tuple(thing) if isinstance(thing, list) else thing
    if not is_lot_of(told, lots):
        raise NoLot(thing)
    return told


def is_lot_of(thing, lots):
    """Tell whether a thing is a tuple of numbers that is one of the lots."""
    if not isinstance(thing, tuple) or not all([is_whole(sensor) for sensor in thing]):
        return False
    return thing in lots


def _check_lot(index, lot, sensors):
    if not is_sequence(lot):
        raise BadLots(index, "lot")
    if not all([is_whole(sensor, 0, sensors - 1) for sensor in lot]):
        raise BadLots(index, "sensor")


def _is_part(lot, lots):
    return lies_within(lot, [other for other in lots if other != lot])


def _holds(lot, group):
    return all([sensor in lot for sensor in group])
