"""Renting: the cheapest sensors with which a world is kept, and which of them are needed."""

from farheld.errors import Barred, BadGroup, BadPrices
from farheld.ratios import is_whole
from farheld.sequences import is_ascending, is_sequence
from farheld.verdicts import Clearance, RateBar, TrustBar, bar_fault, clearance_fault, find_bar, find_clearance
from farheld.weighing import Weighing, all_masks, group_of, mask_of
from farheld.worlds import World

HIGHEST_PRICE = 1000


class Hiring:
    """A cheapest holding group with its price, its clearance, and a bar for each cheaper group."""

    def __init__(self, group, price, clearance, barred):
        self.group = group
        self.price = price
        self.clearance = clearance
        self.barred = barred

    def __eq__(self, other):
        if not isinstance(other, Hiring):
            return False
        if self.group != other.group or self.price != other.price:
            return False
        return self.clearance == other.clearance and self.barred == other.barred


def check_group(world, group):
    """Return a group as a tuple, or raise BadGroup."""
    many = len(world.sensors)
    if not is_ascending(group, 0, many, many):
        raise BadGroup()
    return tuple(group)


def silenced_world(world, group):
    """Return the world in which all channels of a group are silenced."""
    told = world
    for sensor in check_group(world, group):
        told = told.silenced(sensor)
    return told


def hired_world(world, group):
    """Return the world with the sensors of a group alone."""
    kept = check_group(world, group)
    lots = [[place for place, sensor in enumerate(kept) if sensor in lot] for lot in world.lots]
    return World(world.plant, [world.sensors[sensor] for sensor in kept], lots)


def does_hold(world, group):
    """Tell whether nothing bars the world in which all sensors outside a group are silenced."""
    return find_bar(own_world(world, group)) is None


def own_world(world, group):
    """Return the world in which all sensors outside a group are silenced."""
    return silenced_world(world, world.outside(check_group(world, group)))


def check_prices(world, prices):
    """Return prices as a tuple, or raise BadPrices."""
    many = len(world.sensors)
    if not is_sequence(prices, many, many):
        raise BadPrices(None)
    for sensor, price in enumerate(prices):
        if not is_whole(price, 0, HIGHEST_PRICE):
            raise BadPrices(sensor)
    return tuple(prices)


def group_price(world, prices, group):
    """Return the sum of the prices of a group."""
    told = check_prices(world, prices)
    return _price_of(told, check_group(world, group))


def cheapest_group(world, prices):
    """Return the Hiring of the cheapest holding group."""
    told = check_prices(world, prices)
    holding = _holding_groups(world)
    if not holding:
        raise Barred(find_bar(world))
    price, _, group = min([(_price_of(told, group), len(group), group) for group in holding])
    cheaper = _cheaper_groups(world, told, price)
    greatest = [one for one in cheaper if not any([_is_part(one, other) for other in cheaper if other != one])]
    barred = [(one, find_bar(own_world(world, one))) for one in sorted(greatest)]
    return Hiring(group, price, find_clearance(own_world(world, group)), tuple(barred))


def hiring_fault(world, prices, hiring):
    """Return the first fault of a Hiring, None if it is right."""
    told = check_prices(world, prices)
    group = _known_group(world, hiring.group)
    if group is None:
        return "group"
    if not is_whole(hiring.price) or hiring.price != _price_of(told, group):
        return "price"
    if not isinstance(hiring.clearance, Clearance):
        return "clearance"
    if clearance_fault(own_world(world, group), hiring.clearance) is not None:
        return "clearance"
    if not isinstance(hiring.barred, tuple) or not all([_is_barred(world, couple) for couple in hiring.barred]):
        return "barred"
    for cheaper in _cheaper_groups(world, told, hiring.price):
        if not any([_is_part(cheaper, other) for other, _ in hiring.barred]):
            return "cheaper"
    return None


def least_groups(world):
    """Return all holding groups that hold no more without any one of their sensors."""
    holding = _holding_groups(world)
    least = []
    for group in holding:
        if not any([_is_part(other, group) for other in holding if other != group]):
            least.append(group)
    return tuple(sorted(least))


def needed_sensors(world):
    """Return the sensors that stand in every holding group."""
    holding = _holding_groups(world)
    if not holding:
        raise Barred(find_bar(world))
    return tuple([sensor for sensor in range(len(world.sensors)) if all([sensor in group for group in holding])])


def _holding_groups(world):
    weighing = Weighing(world)
    lots = [mask_of(lot) for lot in world.lots]
    masks = all_masks(world)
    return [group_of(mask) for mask in masks if weighing.is_kept(lots, masks[-1] - mask)]


def _cheaper_groups(world, prices, price):
    groups = [group_of(mask) for mask in all_masks(world)]
    return [group for group in groups if _price_of(prices, group) < price]


def _price_of(prices, group):
    return sum([prices[sensor] for sensor in group])


def _is_part(group, other):
    return all([sensor in other for sensor in group])


def _known_group(world, thing):
    """Return a group as a tuple, None for any other thing."""
    try:
        return check_group(world, thing)
    except BadGroup:
        return None


def _is_barred(world, thing):
    """Tell whether a thing is a tuple of a group and of a bar of its own world."""
    if not isinstance(thing, tuple) or len(thing) != 2:
        return False
    group = _known_group(world, thing[0])
    if group is None or not isinstance(thing[1], (RateBar, TrustBar)):
        return False
    return bar_fault(own_world(world, group), thing[1]) is None
