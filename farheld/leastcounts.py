"""The least counts by which sensors of limited room tell modes in enough parts.

Rooms and needs are whole numbers of 1 or more, by sensor and by mode: the product of a sensor's
counts may be at most its room, and the product of a mode's counts must be at least its need.
What counts leave of a need is the need divided by them, rounded up; what they leave of a room is
the room divided by them, rounded down.
"""

from farheld.digits import multiplied


def least_counts(rooms, free, needs):
    """Return the least counts, row by row, None if there are none.

    `free` has for each mode and each sensor whether the count may be above 1.
    """
    left = Left(rooms, free, needs)
    rows = [[1] * len(rooms) for _ in needs]
    for mode in range(len(needs)):
        for sensor in range(len(rooms)):
            if left.free[mode][sensor]:
                count = _least_count(left, mode, sensor)
                if count is None:
                    return None
                rows[mode][sensor] = count
                left.take(mode, sensor, count)
    if not all([need == 1 for need in left.needs]):
        return None
    return [tuple(row) for row in rows]


class Left:
    """What is left of rooms and needs while counts are fixed one by one."""

    def __init__(self, rooms, free, needs):
        self.rooms = list(rooms)
        self.free = [list(row) for row in free]
        self.needs = list(needs)

    def take(self, mode, sensor, count):
        """Fix a count that was free."""
        self.free[mode][sensor] = False
        self.rooms[sensor] = self.rooms[sensor] // count
        self.needs[mode] = _shared_out(self.needs[mode], count)

    def free_modes(self, sensor):
        """Return the modes of which a sensor may still tell something."""
        return [mode for mode in range(len(self.needs)) if self.free[mode][sensor]]


def _least_count(left, mode, sensor):
    """Return the least count of a sensor for a mode with which the others can do the rest."""
    others = [other for other in range(len(left.rooms)) if other != sensor]
    bound = multiplied(left.rooms)
    fronts = [tuple(left.needs)] if multiplied(left.needs) <= bound else []
    for other in others:
        bound = bound // left.rooms[other]
        fronts = _fronts_behind(fronts, left.rooms[other], left.free_modes(other), bound)
    fixed = [other for other in range(len(left.needs)) if not left.free[other][sensor]]
    # What the others leave of each need this sensor tells alone, so just that much is its count.
    told = [front[mode] for front in fronts if all([front[other] == 1 for other in fixed])]
    return min(told) if told else None


def _fronts_behind(fronts, room, modes, bound):
    """Return what can be left of needs behind a sensor, without what is worse in all modes.

    `bound` is the product of the rooms of the sensors that come behind it.
    """
    found = {}
    ways = _widest_counts(room, len(modes))
    for front in fronts:
        for counts in ways:
            left = list(front)
            for mode, count in zip(modes, counts):
                left[mode] = _shared_out(left[mode], count)
            if multiplied(left) <= bound:
                found[tuple(left)] = True
    kept = []
    for front in sorted(found):
        if not _is_beaten(front, kept):
            kept.append(front)
    return kept


def _is_beaten(front, kept):
    """Tell whether one of the kept fronts, all lesser tuples, is nowhere above a front."""
    if len(front) <= 2:
        # The last one kept has the least second need of all.
        return len(kept) > 0 and kept[-1][-1] <= front[-1]
    for other in kept:
        if all([one <= need for one, need in zip(other, front)]):
            return True
    return False


def _widest_counts(room, many):
    """Return tuples of so many counts with a product of at most the room, among them all that cannot grow."""
    if many == 0:
        return [()]
    if many == 1:
        return [(room,)]
    told = []
    count = 1
    while count <= room:
        rest = room // count
        count = room // rest
        told.extend([(count,) + counts for counts in _widest_counts(rest, many - 1)])
        count += 1
    return told


def _shared_out(need, count):
    return -(-need // count)
