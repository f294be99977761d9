"""Verdicts: whether a world can be kept, and the certificates that show it."""

from farheld.errors import Barred
from farheld.lots import is_lot_of
from farheld.ratios import ONE, compare, greatest_of, is_whole, least_of, over, product_of, size_of, sum_of, times
from farheld.sequences import is_ascending
from farheld.shares import find_share, is_mixture, number_of_uses
from farheld.uses import count_outcomes


class RateBar:
    """Says that RATE fails for a lot and a set of modes."""

    def __init__(self, lot, modes, weights):
        self.lot = lot
        self.modes = modes
        self.weights = weights

    def __eq__(self, other):
        if not isinstance(other, RateBar):
            return False
        return self.lot == other.lot and self.modes == other.modes and self.weights == other.weights


class TrustBar:
    """Says that TRUST fails for a mode and two lots."""

    def __init__(self, mode, first, second):
        self.mode = mode
        self.first = first
        self.second = second

    def __eq__(self, other):
        if not isinstance(other, TrustBar):
            return False
        return self.mode == other.mode and self.first == other.first and self.second == other.second


class Clearance:
    """Shows that a world is kept."""

    def __init__(self, mixtures, witnesses):
        self.mixtures = mixtures
        self.witnesses = witnesses

    def __eq__(self, other):
        if not isinstance(other, Clearance):
            return False
        return self.mixtures == other.mixtures and self.witnesses == other.witnesses


def period_growth(world, modes):
    """Return the growth of a set of modes over one period."""
    return product_of([size_of(factor) for mode in modes for factor in world.plant.factors[mode]])


def period_number(world, sensor):
    """Return the product of the numbers of a sensor's channel over one period."""
    return number_of_uses(world.sensors[sensor].channel.table)


def find_margin(world, lot, modes):
    """Return the product of the tellers' period numbers divided by the growth of the set."""
    numbers = [period_number(world, sensor) for sensor in list_tellers(world, lot, modes)]
    return over(product_of(numbers), period_growth(world, modes))


def list_tellers(world, lot, modes):
    """Return the sensors outside a lot that see a mode of a set."""
    return tuple([sensor for sensor in world.outside(lot) if _sees_some(world, sensor, modes)])


def list_watchers(world, first, second, mode):
    """Return the sensors outside two lots that see a mode and are solid in some phase."""
    told = []
    for sensor in world.outside(tuple(first) + tuple(second)):
        if mode in world.sensors[sensor].seen and _solid_phases(world, sensor):
            told.append(sensor)
    return tuple(told)


def walk_rate_bars(world):
    """Yield a rate bar for each lot and set for which RATE fails."""
    shares = [[find_share(use) for use in sensor.channel.table] for sensor in world.sensors]
    for modes in list_sets(world.plant.modes):
        growth = period_growth(world, modes)
        for lot in world.lots:
            tellers = list_tellers(world, lot, modes)
            numbers = product_of([share.number for sensor in tellers for share in shares[sensor]])
            if compare(numbers, growth) <= 0:
                yield RateBar(lot, modes, tuple([_weights_of(shares[sensor]) for sensor in tellers]))


def find_rate_bar(world):
    """Return the first rate bar, None if there is none."""
    for bar in walk_rate_bars(world):
        return bar
    return None


def find_trust_bar(world):
    """Return the first trust bar, None if there is none."""
    bars = _list_trust_bars(world)
    return bars[0] if bars else None


def find_bar(world):
    """Return the first rate bar, else the first trust bar, None for a kept world."""
    bar = find_rate_bar(world)
    return find_trust_bar(world) if bar is None else bar


def list_least_bars(world):
    """Return the rate bars without those of larger sets than need be, then all trust bars."""
    bars = list(walk_rate_bars(world))
    least = [bar for bar in bars if not any([_is_within(other, bar) for other in bars])]
    return tuple(least + _list_trust_bars(world))


def bar_fault(world, bar):
    """Return the first fault of a bar, None if the world is barred by it."""
    if isinstance(bar, RateBar):
        return _rate_bar_fault(world, bar)
    if not is_whole(bar.mode) or bar.mode not in world.plant.growing:
        return "mode"
    if not is_lot_of(bar.first, world.lots) or not is_lot_of(bar.second, world.lots):
        return "lot"
    return "watcher" if list_watchers(world, bar.first, bar.second, bar.mode) else None


def find_clearance(world):
    """Return a Clearance of a kept world."""
    bar = find_bar(world)
    if bar is not None:
        raise Barred(bar)
    mixtures = []
    for sensor in world.sensors:
        mixtures.append(tuple([find_share(use).mixture for use in sensor.channel.table]))
    witnesses = [_find_witness(world, mode, first, second) for mode, first, second in _list_causes(world)]
    return Clearance(tuple(mixtures), tuple(witnesses))


def clearance_fault(world, clearance):
    """Return the first fault of a Clearance, None if the world is kept by it."""
    tables = [sensor.channel.table for sensor in world.sensors]
    sizes = [[len(one) for one in told] for told in tables]
    if not _are_mixtures(clearance.mixtures, sizes):
        return "mixtures"
    kept = []
    for table, row in zip(tables, clearance.mixtures):
        kept.append(product_of([_greatest_met(use, mixture) for use, mixture in zip(table, row)]))
    for modes in list_sets(world.plant.modes):
        growth = period_growth(world, modes)
        for lot in world.lots:
            shares = [kept[sensor] for sensor in list_tellers(world, lot, modes)]
            if compare(times(growth, product_of(shares)), ONE) >= 0:
                return "rate"
    return None if _are_witnesses(world, clearance.witnesses) else "witness"


def _rate_bar_fault(world, bar):
    if not is_lot_of(bar.lot, world.lots):
        return "lot"
    modes = world.plant.modes
    if not isinstance(bar.modes, tuple) or not is_ascending(bar.modes, 1, modes, modes):
        return "modes"
    tables = [world.sensors[sensor].channel.table for sensor in list_tellers(world, bar.lot, bar.modes)]
    sizes = [[count_outcomes(one) for one in told] for told in tables]
    if not _are_mixtures(bar.weights, sizes):
        return "weights"
    kept = period_growth(world, bar.modes)
    for table, row in zip(tables, bar.weights):
        for use, weights in zip(table, row):
            kept = times(kept, _least_met(use, weights))
    return "rate" if compare(kept, ONE) < 0 else None


def _are_mixtures(thing, sizes):
    """Tell whether a thing has mixtures of these sizes, row by row."""
    if not isinstance(thing, tuple) or len(thing) != len(sizes):
        return False
    for row, lengths in zip(thing, sizes):
        if not isinstance(row, tuple) or len(row) != len(lengths):
            return False
        if not all([is_mixture(item, length) for item, length in zip(row, lengths)]):
            return False
    return True


def _least_met(use, weights):
    return least_of([sum_of([weights[outcome] for outcome in heard]) for heard in use])


def _greatest_met(use, mixture):
    sums = []
    for outcome in range(count_outcomes(use)):
        sums.append(sum_of([one for heard, one in zip(use, mixture) if outcome in heard]))
    return greatest_of(sums)


def _sees_some(world, sensor, modes):
    return any([mode in modes for mode in world.sensors[sensor].seen])


def _solid_phases(world, sensor):
    channel = world.sensors[sensor].channel
    return [phase for phase in range(channel.period) if channel.kind_at(phase) == "solid"]


def list_sets(modes):
    """Return all sets of modes, those with fewer modes first, then the lesser tuple."""
    sets = []
    for mask in range(1, 1 << modes):
        told = tuple([mode for mode in range(modes) if mask >> mode & 1])
        sets.append((len(told), told))
    return [told for _, told in sorted(sets)]


def _list_causes(world):
    """Return (mode, first lot, second lot) for each growing mode and each two lots, in order."""
    causes = []
    for mode in world.plant.growing:
        for at, first in enumerate(world.lots):
            for second in world.lots[at:]:
                causes.append((mode, first, second))
    return causes


def _list_trust_bars(world):
    bars = []
    for mode, first, second in _list_causes(world):
        if not list_watchers(world, first, second, mode):
            bars.append(TrustBar(mode, first, second))
    return bars


def _is_within(one, other):
    """Tell whether the set of one bar is a smaller part of that of another with the same lot."""
    if one.lot != other.lot or len(one.modes) >= len(other.modes):
        return False
    return all([mode in other.modes for mode in one.modes])


def _weights_of(shares):
    return tuple([share.weights for share in shares])


def _find_witness(world, mode, first, second):
    sensor = list_watchers(world, first, second, mode)[0]
    phase = _solid_phases(world, sensor)[0]
    one, other = world.sensors[sensor].channel.parted_words(phase)
    return (sensor, phase, one, other)


def _are_witnesses(world, things):
    causes = _list_causes(world)
    if not isinstance(things, tuple) or len(things) != len(causes):
        return False
    for thing, (mode, first, second) in zip(things, causes):
        if not _is_witness(world, thing, mode, first, second):
            return False
    return True


def _is_witness(world, thing, mode, first, second):
    if not isinstance(thing, tuple) or len(thing) != 4 or not all([is_whole(part, 0) for part in thing]):
        return False
    sensor, phase, one, other = thing
    if sensor not in world.outside(first + second) or mode not in world.sensors[sensor].seen:
        return False
    channel = world.sensors[sensor].channel
    if phase >= channel.period or one >= channel.words or other >= channel.words:
        return False
    return not channel.common(phase, one, other)
