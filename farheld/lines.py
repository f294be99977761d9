"""Lines: what a link's mode can be at a tick if all outcomes so far are as they are.

A stretch is a tuple (low, high, memory): the positions between its ends that go with a memory of the
coder. A start at 0 alone is a stretch whose ends are equal. Stretches of one line ascend and are disjoint.
"""

from farheld.boxes import count_below
from farheld.ranks import ascending, ranks_of, simplest_between
from farheld.ratios import ZERO, compare, greatest_of, least_of, minus, over, plus, sum_of, times
from farheld.running import inputs_of, registers_behind


class Course:
    """The controller of a link whose outcomes reach it some ticks later."""

    def __init__(self, program, late):
        self._controller = program.controller
        self._late = late
        self._pending = []
        self.state = self._controller.first
        self.registers = self._controller.registers

    def input_behind(self, outcome):
        """Return the input of a tick in which an outcome comes, and go on behind it."""
        self._pending.append(outcome)
        if len(self._pending) <= self._late:
            return ZERO
        move = self._controller.find_move(self.state, (self._pending.pop(0),))
        told = inputs_of(move, self.registers, 1)
        self.registers = registers_behind(move, self.registers)
        self.state = move[0]
        return told[0]


class Pass:
    """What a tick does to a line: the parts that are kept, (low, high, memory, memory behind), and their motion."""

    def __init__(self, parts, factor, push):
        self.parts = parts
        self._factor = factor
        self._push = push
        self._input = ZERO

    def line_behind(self, told_input):
        """Return the next line: the images of the parts, its outer ends widened by the push."""
        self._input = told_input
        images = []
        for low, high, _, behind in self.parts:
            ends = [plus(times(self._factor, end), told_input) for end in (low, high)]
            images.append((ends[0], ends[1], behind) if self._factor[0] > 0 else (ends[1], ends[0], behind))
        line = _joined(images if self._factor[0] > 0 else images[::-1])
        low, high, memory = line[0]
        line[0] = (minus(low, self._push), high, memory)
        low, high, memory = line[-1]
        line[-1] = (low, plus(high, self._push), memory)
        return line

    def point_ahead(self, point, memory):
        """Return (point, memory) that some push leads to a point of the next line with its memory."""
        ends = [self._source_of(minus(point, self._push)), self._source_of(plus(point, self._push))]
        least, most = ends if self._factor[0] > 0 else ends[::-1]
        for low, high, ahead, behind in self.parts:
            if behind != memory or compare(low, most) > 0 or compare(least, high) > 0:
                continue
            if low == high:
                return (low, ahead)
            first, last = greatest_of((low, least)), least_of((high, most))
            if compare(first, last) < 0:
                return (simplest_between(first, last), ahead)
        return None

    def _source_of(self, place):
        return over(minus(place, self._input), self._factor)


def parts_by_outcome(coder, course, line, row):
    """Return the parts of a line, (low, high, memory, memory behind), by the outcome that comes of their words."""
    looks = [values for _, values in coder.find_cuts(course.state, course.registers)]
    cuts = ascending([value for values in looks for value in values])
    told = {}
    for low, high, memory in line:
        ends = [low] + cuts[count_below(cuts, low, True):count_below(cuts, high, False)] + [high]
        for at in range(len(ends) - 1):
            places = [count_below(values, ends[at], True) for values in looks]
            word, behind = coder.find_reply(course.state, memory, places)
            told.setdefault(row[word][0], []).append((ends[at], ends[at + 1], memory, behind))
    return told


def length_of(parts):
    """Return the length of all parts together."""
    return sum_of([minus(part[1], part[0]) for part in parts])


def longest_parts(parts, due):
    """Return as few of the parts as have the due length together, at least one, in their order."""
    lengths = [minus(part[1], part[0]) for part in parts]
    ranks = ranks_of(lengths)
    order = sorted([(-ranks[length], at) for at, length in enumerate(lengths)])
    total = ZERO
    taken = {}
    for _, at in order:
        if taken and compare(total, due) >= 0:
            break
        taken[at] = True
        total = plus(total, lengths[at])
    return [part for at, part in enumerate(parts) if at in taken]


def _joined(stretches):
    """Return a list of ascending stretches in which those that touch are one if they have the same memory."""
    told = []
    for low, high, memory in stretches:
        if told and told[-1][2] == memory and told[-1][1] == low:
            told[-1] = (told[-1][0], high, memory)
        else:
            told.append((low, high, memory))
    return told
