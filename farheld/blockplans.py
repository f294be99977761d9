"""Plans of blocks: what the controller has gathered from the outcomes at each tick of a block.

What is gathered is called a KEY. In the telling ticks it has for each telling sensor the messages left.
In the listing ticks, if somebody helps, it is a couple: for each mode and sensor the unlike digits left,
and for each helper its messages left. Later it has the told cell of each mode. It is None once the guess
is struck.
"""

from farheld.blocks import block_ticks, list_checkers, listed_ticks, told_ticks
from farheld.digits import count_told, digits_of, join_cell, message_digits, multiplied
from farheld.splits import list_tasks, start_size
from farheld.trees import Telling, words_of


class BlockPlan:
    """Who says what in each tick of a split's blocks, and what outcomes make of a key."""

    def __init__(self, world, split):
        self.world = world
        self.split = split
        self.ticks = block_ticks(world, split)
        self.told = told_ticks(world, split)
        self.checks = {sensor: tick for sensor, tick in list_checkers(world, split)}
        self.tasks = {}
        self.bases = {}
        for sensor in world.outside(split.guess):
            tasks = list_tasks(world, split.guess, split.counts, sensor)
            if tasks:
                self.tasks[sensor] = tasks
                self.bases[sensor] = [start_size(world, listed) for _, listed in tasks]
        # Who helps has something to say until the last listing tick.
        self.listed = self.told + listed_ticks(world, split) if self.tasks else self.told
        self._tellings = {}
        for sensor in world.outside(split.guess):
            many = count_told(split.counts, sensor)
            if many > 1:
                uses = world.uses(sensor, 0, self.told)
                self._tellings[sensor] = Telling(uses, many, start_size(world, sensor))
        self._helps = {}
        for helper, bases in self.bases.items():
            uses = world.uses(helper, self.told, self.listed - self.told)
            self._helps[helper] = Telling(uses, multiplied(bases), 1)
        self._words = {}
        self._motions = {}

    def first_key(self):
        """Return the key at a block's begin."""
        return tuple([tuple(range(telling.many)) for telling in self._tellings.values()])

    def is_telling(self, sensor, tick):
        """Tell whether a sensor tells its message at a tick."""
        return tick < self.told and sensor in self._tellings

    def is_helping(self, sensor, tick):
        """Tell whether a sensor tells digits of a listed sensor at a tick."""
        return self.told <= tick < self.listed and sensor in self._helps

    def is_checking(self, sensor, tick):
        """Tell whether a tick is a sensor's check tick."""
        return sensor in self.checks and self.checks[sensor] == tick

    def words_left(self, sensor, tick, key):
        """Return (messages left, their words) of a sensor that tells or helps at a tick."""
        if tick < self.told:
            left = key[list(self._tellings).index(sensor)]
            return (left, self._words_at(self._tellings[sensor], "tell", sensor, tick, len(left)))
        _, lefts = key
        left = lefts[list(self._helps).index(sensor)]
        return (left, self._words_at(self._helps[sensor], "help", sensor, tick - self.told, len(left)))

    def motion_until(self, mode, tick):
        """Return what is carried and what is gathered of a mode until a tick of the block."""
        if (mode, tick) not in self._motions:
            plant = self.world.plant
            self._motions[(mode, tick)] = (plant.carried(mode, 0, tick), plant.gathered(mode, 0, tick))
        return self._motions[(mode, tick)]

    def heeded(self, tick, key):
        """Return the sensors whose outcomes the controller looks at."""
        if key is None:
            return ()
        sensors = range(len(self.world.sensors))
        return tuple([sensor for sensor in sensors if self._is_heeded(sensor, tick, key)])

    def next_keys(self, tick, key, heeds):
        """Return the key behind a tick for each row of outcomes of the heeded sensors, ascending."""
        if key is None:
            return [None]
        rows = [()]
        for sensor in heeds:
            parts = [self._part_behind(sensor, tick, key, outcome) for outcome in range(self.world.outcomes[sensor])]
            rows = [row + (part,) for row in rows for part in parts]
        settled = {}
        told = []
        for row in rows:
            if row not in settled:
                settled[row] = None if None in row else self._key_behind(tick, key, heeds, row)
            told.append(settled[row])
        return told

    def _is_heeded(self, sensor, tick, key):
        if self.is_telling(sensor, tick) or self.is_helping(sensor, tick):
            # Where all messages left say the same word, an outcome tells nothing.
            _, words = self.words_left(sensor, tick, key)
            return len(set(words)) > 1
        return self.is_checking(sensor, tick)

    def _part_behind(self, sensor, tick, key, outcome):
        """Return the messages of a sensor left behind an outcome, () behind a checker's; None if the guess is."""
        use = self.world.sensors[sensor].channel.table[tick % self.world.period]
        if tick >= self.listed:
            first, _ = self.world.sensors[sensor].channel.parted_words(tick)
            return () if outcome in use[first] else None
        left, words = self.words_left(sensor, tick, key)
        kept = tuple([message for message, word in zip(left, words) if outcome in use[word]])
        if kept:
            return kept
        # The last lot is not struck; that no message is left does not happen where it is guessed rightly.
        return None if self.split.checked else left[:1]

    def _key_behind(self, tick, key, heeds, row):
        if tick >= self.listed:
            return key
        if tick < self.told:
            lefts = _replaced(key, list(self._tellings), heeds, row)
            return self._digits_told(lefts) if tick + 1 == self.told else lefts
        digits, lefts = key
        lefts = _replaced(lefts, list(self._helps), heeds, row)
        return self._cells_told(digits, lefts) if tick + 1 == self.listed else (digits, lefts)

    def _digits_told(self, lefts):
        """Return the key behind the telling ticks."""
        counts = self.split.counts
        many = len(self.world.sensors)
        digits = [[(0,)] * many for _ in counts]
        for sensor, left in zip(list(self._tellings), lefts):
            told = [message_digits(counts, sensor, message) for message in left]
            for mode, row in enumerate(digits):
                row[sensor] = tuple(sorted(set([one[mode] for one in told])))
        table = tuple([tuple(row) for row in digits])
        if not self._helps:
            return self._cells_told(table, ())
        return (table, tuple([tuple(range(telling.many)) for telling in self._helps.values()]))

    def _cells_told(self, digits, lefts):
        """Return the told cells, mode by mode."""
        told = [[unlike[0] for unlike in row] for row in digits]
        for helper, left in zip(list(self._helps), lefts):
            places = digits_of(self.bases[helper], left[0])
            for (mode, listed), place in zip(self.tasks[helper], places):
                unlike = digits[mode][listed]
                told[mode][listed] = unlike[min(place, len(unlike) - 1)]
        return tuple([join_cell(self.split.counts, mode, row) for mode, row in enumerate(told)])

    def _words_at(self, telling, kind, sensor, at, size):
        if (kind, sensor, at, size) not in self._words:
            self._words[(kind, sensor, at, size)] = words_of(telling.dealt_at(at, size))
        return self._words[(kind, sensor, at, size)]


def _replaced(lefts, sensors, heeds, row):
    """Return the messages left of all sensors, those of the heeded ones replaced."""
    told = list(lefts)
    for sensor, left in zip(heeds, row):
        told[sensors.index(sensor)] = left
    return tuple(told)
