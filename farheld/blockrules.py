"""Rules of blocks: what the coder of a sensor looks at, keeps and says at each tick of a block."""

from farheld.blockforms import cut_forms, stretch_forms
from farheld.blocks import growing_seen
from farheld.digits import cell_digits, count_cells, count_told, digits_of, joined_by, multiplied, sensor_message
from farheld.errors import TooLarge
from farheld.moves import MOST_REPLIES, MOST_THRESHOLDS
from farheld.programs import MOST_MEMORIES


class Witness:
    """What a sensor keeps of tick 0: its message, then the digit of each of its tasks, as one memory."""

    def __init__(self, plan, sensor):
        counts = plan.split.counts
        self.plan = plan
        self.sensor = sensor
        self.tasks = plan.tasks.get(sensor, ())
        self._counts = [counts[mode][listed] for mode, listed in self.tasks]
        self._rows = multiplied(self._counts)
        self.memories = count_told(counts, sensor) * self._rows
        if self.memories > MOST_MEMORIES:
            raise TooLarge()

    def rule_at(self, tick, key, memories):
        """Return the coder's rule at a tick of the block; the coder has so many memories in all."""
        last = 0 if tick + 1 == self.plan.ticks else None
        if key is None:
            return _plain_rule(0, last)
        if tick == 0 and self.memories > 1:
            return self._first_rule(key, last)
        if self.plan.is_telling(self.sensor, tick):
            return self._recall_rule(self._messages(), tick, key, memories, last)
        if self.plan.is_helping(self.sensor, tick):
            digits, _ = key
            return self._recall_rule(self._helping_messages(digits), tick, key, memories, last)
        if self.plan.is_checking(self.sensor, tick):
            return self._checking_rule(tick, key, last)
        return _plain_rule(0, last)

    def _first_rule(self, key, last):
        """Return the rule of tick 0: looks for the cells, keeps them as a memory, and says the first word."""
        modes = self._modes_needed()
        counts = self.plan.split.counts
        rows = [[0] * len(counts)]
        for mode in modes:
            cells = count_cells(counts, mode)
            if cells > MOST_THRESHOLDS + 1 or len(rows) * cells > MOST_REPLIES:
                raise TooLarge()
            rows = [row[:mode] + [cell] + row[mode + 1:] for row in rows for cell in range(cells)]
        said = self._words_by_message(0, key) if self.plan.is_telling(self.sensor, 0) else {}
        replies = []
        for row in rows:
            memory = self._memory_of(row)
            replies.append((said.get(memory // self._rows, 0), memory if last is None else last))
        looks = [(mode, cut_forms(self.plan, mode)) for mode in modes]
        return (False, tuple(looks), tuple(replies))

    def _modes_needed(self):
        """Return the modes whose cells are looked for: the sensor tells a digit of them, or helps with one."""
        counts = self.plan.split.counts
        helped = [mode for mode, _ in self.tasks]
        return [mode for mode in range(len(counts)) if counts[mode][self.sensor] > 1 or mode in helped]

    def _memory_of(self, cells):
        counts = self.plan.split.counts
        digits = [cell_digits(counts, mode, cells[mode])[listed] for mode, listed in self.tasks]
        return sensor_message(counts, self.sensor, cells) * self._rows + joined_by(self._counts, digits)

    def _messages(self):
        """Return for each memory the message that is told."""
        return [memory // self._rows for memory in range(self.memories)]

    def _helping_messages(self, table):
        """Return for each memory the message that tells the place of each task's digit among those left."""
        told = []
        for row in range(self._rows):
            places = []
            for (mode, listed), digit in zip(self.tasks, digits_of(self._counts, row)):
                unlike = table[mode][listed]
                places.append(unlike.index(digit) if digit in unlike else 0)
            told.append(joined_by(self.plan.bases[self.sensor], places))
        return told * (self.memories // self._rows)

    def _recall_rule(self, messages, tick, key, memories, last):
        said = self._words_by_message(tick, key)
        words = list(said.values())
        if len(set(words)) == 1:
            return _plain_rule(words[0], last)
        replies = [(said.get(message, 0), last) for message in messages]
        return (True, (), tuple(replies + [(0, last)] * (memories - len(replies))))

    def _words_by_message(self, tick, key):
        left, words = self.plan.words_left(self.sensor, tick, key)
        return {message: word for message, word in zip(left, words)}

    def _checking_rule(self, tick, cells, last):
        """Return the rule by which a complaint is made unless all modes lie in their told stretches."""
        world = self.plan.world
        good, bad = world.sensors[self.sensor].channel.parted_words(tick)
        seen = growing_seen(world, self.sensor)
        looks = [(mode, stretch_forms(self.plan, mode, cells[mode], tick)) for mode in seen]
        # Of the three places at each look only the middle one is within the stretch.
        due = joined_by([3] * len(seen), [1] * len(seen))
        replies = [(bad, last)] * multiplied([3] * len(seen))
        replies[due] = (good, last)
        return (False, tuple(looks), tuple(replies))


def _plain_rule(word, memory):
    return (False, (), ((word, memory),))
