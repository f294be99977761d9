"""Splits: who tells how much of which mode under a guess of the liars' lot."""

from farheld.counts import MOST, count_messages, list_size
from farheld.digits import count_cells, count_told
from farheld.errors import Barred, TooNear
from farheld.leastcounts import least_counts
from farheld.lots import is_lot_of, known_lot
from farheld.ratios import compare, floor_of, is_whole, power_of
from farheld.verdicts import find_bar, list_watchers, period_growth

MOST_PERIODS = 8


class Split:
    """The periods of a block and the counts by which its cells are told."""

    def __init__(self, guess, checked, idle, telling, listing, counts):
        self.guess = guess
        self.checked = checked
        self.idle = idle
        self.telling = telling
        self.listing = listing
        self.counts = counts

    def __eq__(self, other):
        if not isinstance(other, Split):
            return False
        if self.guess != other.guess or self.checked != other.checked or self.idle != other.idle:
            return False
        return self.telling == other.telling and self.listing == other.listing and self.counts == other.counts

    @property
    def periods(self):
        """The number of all periods of a block."""
        return self.telling + self.listing + (1 if self.checked else 0) + self.idle


def block_growth(world, mode, periods):
    """Return the growth of a mode over so many periods."""
    return power_of(period_growth(world, (mode,)), periods)


def start_size(world, sensor):
    """Return the list size of a sensor's uses in a period, 1 for a dead sensor."""
    size = list_size(_uses_of_period(world, sensor))
    return 1 if size is None else size


def is_listed(world, sensor):
    """Tell whether what a sensor tells leaves a list of messages."""
    return start_size(world, sensor) > 1


def sensor_room(world, sensor, periods):
    """Return how many messages a sensor can tell in so many periods from its start size."""
    return count_messages(world.uses(sensor, 0, periods * world.period), start_size(world, sensor))


def find_helper(world, guess, mode):
    """Return the least sensor outside the guess that sees a mode and is solid in some phase, else None."""
    watchers = list_watchers(world, guess, (), mode)
    return watchers[0] if watchers else None


def list_tasks(world, guess, counts, helper):
    """Return (mode, listed sensor) for each digit that a helper must say."""
    tasks = []
    for mode, row in enumerate(counts):
        if find_helper(world, guess, mode) == helper:
            tasks.extend([(mode, sensor) for sensor, count in enumerate(row) if count > 1 and is_listed(world, sensor)])
    return tuple(tasks)


def listing_periods(world, guess, counts):
    """Return the least number of periods in which all helpers can do their tasks, None if one has too many."""
    measures = Measures(world, guess)
    cells = []
    for mode, row in enumerate(counts):
        cells.extend([(mode, sensor) for sensor, count in enumerate(row) if count > 1])
    return measures.listing_for(cells)


def find_split(world, guess, blocks=8, idle=0):
    """Return the split of a guess with the fewest telling periods, and of these that of the least counts."""
    lot = known_lot(guess, world.lots)
    _check_kept(world)
    return _split_of(world, lot, blocks, idle)


def plan_splits(world, blocks=8, idle=0):
    """Return the splits of all lots of the world, in order."""
    _check_kept(world)
    return tuple([_split_of(world, lot, blocks, idle) for lot in world.lots])


def split_fault(world, split):
    """Return the first fault of a Split, None if it is right."""
    if not is_lot_of(split.guess, world.lots):
        return "guess"
    if not isinstance(split.checked, bool) or split.checked != _is_checked(world, split.guess):
        return "checked"
    if not is_whole(split.idle, 0, 1):
        return "checked"
    if not is_whole(split.telling, 1, MOST_PERIODS) or not is_whole(split.listing, 0, MOST_PERIODS):
        return "periods"
    if not _are_counts(world, split.counts) or not _are_due(world, split.guess, split.counts):
        return "counts"
    for sensor in range(len(world.sensors)):
        if count_told(split.counts, sensor) > sensor_room(world, sensor, split.telling):
            return "room"
    if not _is_listing_enough(world, split):
        return "list"
    for mode in world.plant.growing:
        if compare((count_cells(split.counts, mode), 1), block_growth(world, mode, split.periods)) <= 0:
            return "growth"
    return None


class Measures:
    """What a guess leaves to a world's sensors: sizes, helpers, and counts that are worked out once each."""

    def __init__(self, world, guess):
        sensors = range(len(world.sensors))
        self.world = world
        self.trusted = world.outside(guess)
        self.sizes = [start_size(world, sensor) for sensor in sensors]
        self.helpers = [find_helper(world, guess, mode) for mode in range(world.plant.modes)]
        self._rooms = [[size] for size in self.sizes]
        self._helped = [[1] for _ in sensors]

    def room_in(self, sensor, periods):
        """Return the room of a sensor in so many periods."""
        return self._count_in(self._rooms[sensor], sensor, periods)

    def listing_for(self, cells):
        """Return the listing periods if just these (mode, sensor) have a count above 1."""
        products = [1] * len(self.sizes)
        for mode, sensor in cells:
            if self.sizes[sensor] > 1 and self.helpers[mode] is not None:
                products[self.helpers[mode]] *= self.sizes[sensor]
        if max([1] + products) > MOST:
            return None
        return max([0] + [self._periods_for(helper, due) for helper, due in enumerate(products)])

    def tells(self, mode, sensor):
        """Tell whether a count of a sensor for a mode may be above 1."""
        world = self.world
        if mode not in world.plant.growing or sensor not in self.trusted or mode not in world.sensors[sensor].seen:
            return False
        if self.sizes[sensor] > 1:
            return self.helpers[mode] is not None
        return not _is_dead(world, sensor)

    def _periods_for(self, helper, due):
        periods = 0
        while self._count_in(self._helped[helper], helper, periods) < due:
            periods += 1
        return periods

    def _count_in(self, told, sensor, periods):
        # The uses of a period lead to the next count from that of the periods behind it.
        while len(told) <= periods:
            told.append(count_messages(_uses_of_period(self.world, sensor), told[-1]))
        return told[periods]


def _uses_of_period(world, sensor):
    return world.uses(sensor, 0, world.period)


def _check_kept(world):
    bar = find_bar(world)
    if bar is not None:
        raise Barred(bar)


def _is_checked(world, guess):
    return guess != world.lots[-1]


def _is_dead(world, sensor):
    return list_size(_uses_of_period(world, sensor)) is None


def _split_of(world, guess, blocks, idle):
    """Return the split of a lot of a kept world."""
    checked = _is_checked(world, guess)
    most = min(blocks, MOST_PERIODS) - idle - (1 if checked else 0)
    measures = Measures(world, guess)
    patterns = _list_patterns(measures)
    for telling in range(1, most + 1):
        found = []
        for listing, told in patterns:
            if telling + listing <= most:
                periods = telling + listing + (1 if checked else 0) + idle
                found.append(_least_rows(measures, told, telling, periods))
        fitting = [rows for rows in found if rows is not None]
        if fitting:
            counts = min(fitting)
            return Split(guess, checked, idle, telling, listing_periods(world, guess, counts), counts)
    raise TooNear(blocks)


def _list_patterns(measures):
    """Return (listing periods, (mode, sensor) that may have a count above 1), only what is not within another."""
    cells = []
    for mode in range(measures.world.plant.modes):
        cells.extend([(mode, sensor) for sensor in range(len(measures.sizes)) if measures.tells(mode, sensor)])
    listed = [cell for cell in cells if measures.sizes[cell[1]] > 1]
    plain = [cell for cell in cells if measures.sizes[cell[1]] == 1]
    widest = []
    # Greater masks first, so that each comes behind all that contain it.
    for mask in range((1 << len(listed)) - 1, -1, -1):
        told = [cell for at, cell in enumerate(listed) if mask >> at & 1]
        listing = measures.listing_for(told)
        if listing is not None and not any([size == listing and mask & other == mask for size, other, _ in widest]):
            widest.append((listing, mask, plain + told))
    return [(listing, told) for listing, _, told in widest]


def _least_rows(measures, told, telling, periods):
    """Return the least counts that fit with these alone above 1, None if there are none."""
    world = measures.world
    growing = world.plant.growing
    sensors = range(len(measures.sizes))
    needs = [floor_of(block_growth(world, mode, periods)) + 1 for mode in growing]
    free = [[(mode, sensor) in told for sensor in sensors] for mode in growing]
    found = least_counts([measures.room_in(sensor, telling) for sensor in sensors], free, needs)
    if found is None:
        return None
    rows = [(1,) * len(sensors)] * world.plant.modes
    for mode, row in zip(growing, found):
        rows[mode] = row
    return tuple(rows)


def _are_counts(world, thing):
    """Tell whether a thing has a whole number of 1 or more for each mode and sensor."""
    if not isinstance(thing, tuple) or len(thing) != world.plant.modes:
        return False
    for row in thing:
        if not isinstance(row, tuple) or len(row) != len(world.sensors):
            return False
        if not all([is_whole(count, 1) for count in row]):
            return False
    return True


def _are_due(world, guess, counts):
    """Tell whether each count above 1 is of a growing mode that a sensor outside the guess sees and can tell."""
    for mode, row in enumerate(counts):
        for sensor, count in enumerate(row):
            if count > 1 and (mode not in world.plant.growing or sensor in guess):
                return False
            if count > 1 and (mode not in world.sensors[sensor].seen or _is_dead(world, sensor)):
                return False
    return True


def _is_listing_enough(world, split):
    for mode, row in enumerate(split.counts):
        if find_helper(world, split.guess, mode) is None:
            if any([count > 1 and is_listed(world, sensor) for sensor, count in enumerate(row)]):
                return False
    due = listing_periods(world, split.guess, split.counts)
    return due is not None and split.listing >= due
