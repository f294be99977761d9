"""Failing: which silences, how many liars and which families of lots a world bears."""

from farheld.errors import BadMany
from farheld.ratios import is_whole
from farheld.verdicts import find_bar
from farheld.weighing import Weighing, all_masks, group_of, mask_of


class Borne:
    """The greatest number of liars that a world bears, and the bar of one more."""

    def __init__(self, many, bar):
        self.many = many
        self.bar = bar

    def __eq__(self, other):
        if not isinstance(other, Borne):
            return False
        return self.many == other.many and self.bar == other.bar


def least_silences(world):
    """Return all groups whose silence bars the world, while that of no group within them does."""
    weighing = Weighing(world)
    lots = [mask_of(lot) for lot in world.lots]
    least = []
    # A group within another one has a lesser mask.
    for mask in all_masks(world):
        if not weighing.is_kept(lots, mask) and not any([other & mask == other for other in least]):
            least.append(mask)
    return tuple(sorted([group_of(mask) for mask in least]))


def liars_world(world, many):
    """Return the world in which any so many sensors may lie."""
    if not is_whole(many, 0, len(world.sensors)):
        raise BadMany(many)
    return world.with_lots([group_of(mask) for mask in _masks_of_size(world, many)])


def most_liars(world):
    """Return the greatest number of liars that the world bears, with the bar of one more."""
    weighing = Weighing(world)
    most = len(world.sensors)
    for many in range(most + 1):
        if not weighing.is_kept(_masks_of_size(world, many), 0):
            return Borne(many - 1 if many > 0 else None, find_bar(liars_world(world, many)))
    return Borne(most, None)


def trade_of(world):
    """Return for 0, 1, .. liars how many sensors may be silenced, whichever they are."""
    weighing = Weighing(world)
    told = []
    for many in range(len(world.sensors) + 1):
        lots = _masks_of_size(world, many)
        if not weighing.is_kept(lots, 0):
            break
        silent = 0
        while silent < len(world.sensors) and _bears_silence(weighing, world, lots, silent + 1):
            silent += 1
        told.append(silent)
    return tuple(told)


def greatest_families(world):
    """Return the families of lots that the world bears and that lie within no other such family."""
    weighing = Weighing(world)
    borne = [lots for lots in _list_families(all_masks(world)) if weighing.is_kept(lots, 0)]
    greatest = []
    for lots in borne:
        if not any([_lies_in(lots, others) for others in borne if others != lots]):
            greatest.append(tuple(sorted([group_of(mask) for mask in lots])))
    return tuple(sorted(greatest))


def _masks_of_size(world, many):
    return [mask for mask in all_masks(world) if len(group_of(mask)) == many]


def _bears_silence(weighing, world, lots, silent):
    return all([weighing.is_kept(lots, mask) for mask in _masks_of_size(world, silent)])


def _list_families(masks):
    """Return all families of lots, none of which lies within another one of its family."""
    families = [[]]
    for mask in masks:
        larger = [lots + [mask] for lots in families if not any([lot & mask == lot for lot in lots])]
        families = families + larger
    return [lots for lots in families if lots]


def _lies_in(lots, others):
    """Tell whether each lot of a family is a part of some lot of another one."""
    return all([any([lot & other == lot for other in others]) for lot in lots])
