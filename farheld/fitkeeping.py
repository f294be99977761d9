"""Fitted keepings: lines that are widened until they take in all that comes of the start and of anchors."""

from farheld.errors import BadKeeping, NoFit, NoGroup, NotClosed, NotDone
from farheld.fitting import fit_fault
from farheld.formsums import constant_form, greatest_over, is_at_most, least_over
from farheld.keeping import MOST_LIARS, Keeping, is_group, is_line_of, start_key
from farheld.motions import Frame
from farheld.ratios import greatest_of, least_of, negative
from farheld.sequences import is_ascending
from farheld.ways import Reach

MOST_TAKEN = 400


def fit_keeping(world, program, lot, anchors=()):
    """Return a keeping that takes in what comes of the start and of the anchors."""
    fault = fit_fault(world, program)
    if fault is not None:
        raise NoFit(fault)
    if not is_ascending(lot, 0, MOST_LIARS, MOST_LIARS) or not is_group(world, lot):
        raise NoGroup()
    anchored = Keeping(lot, anchors)
    for index, line in enumerate(anchored.lines):
        if not is_line_of(world, program, anchored.lot, line):
            raise BadKeeping("fit", index)
    table = Table(world, program, anchored)
    taken = 0
    while table.waiting:
        if taken == MOST_TAKEN:
            raise NotDone(MOST_TAKEN)
        table.take_first()
        taken += 1
    return Keeping(anchored.lot, list(table.lines.values()))


class Table:
    """Lines by key, and the keys of those that wait; anchors are never widened."""

    def __init__(self, world, program, anchored):
        self._frame = Frame(world, program, anchored.lot)
        self.lines = {line[0]: line for line in anchored.lines}
        self._anchors = {line[0]: True for line in anchored.lines}
        # Each line that is put has a number of its own, also where it stands for an earlier one.
        self._numbers = {line[0]: place for place, line in enumerate(anchored.lines)}
        self._many = len(anchored.lines)
        self.waiting = [line[0] for line in anchored.lines]
        start = start_key(program, anchored.lot)
        if start not in self.lines:
            self._put(_start_line(world, program, start))

    def take_first(self):
        """Let the first line that waits be followed by what comes of it."""
        line = self.lines[self.waiting.pop(0)]
        reach = Reach(self._frame, line)
        for way in reach.list_ways():
            old = self.lines.get(way.key)
            if old is not None and reach.takes_in(way, old, self._numbers[way.key]):
                continue
            if way.key in self._anchors:
                raise NotClosed(way.key)
            image = reach.image_of(way)
            self._put(image if old is None else _widened(old, image))

    def _put(self, line):
        key = line[0]
        self.lines[key] = line
        self._numbers[key] = self._many
        self._many += 1
        if key not in self.waiting:
            self.waiting.append(key)


def _start_line(world, program, key):
    spans = tuple([(register, register) for register in program.controller.registers])
    ends = [(constant_form(negative(start)), constant_form(start)) for start in world.plant.starts]
    return (key, spans, tuple(ends))


def _widened(old, image):
    """Return a line with the spans and the ends of two lines of one key."""
    key, spans, ends = old
    _, others, other_ends = image
    wide = []
    for (low, high), (least, most) in zip(spans, others):
        wide.append((least_of((low, least)), greatest_of((high, most))))
    told = []
    for (low, high), (least, most) in zip(ends, other_ends):
        told.append((_lower_of(low, least, wide), _higher_of(high, most, wide)))
    return (key, tuple(wide), tuple(told))


def _higher_of(old, other, spans):
    if is_at_most(other, old, spans):
        return old
    if is_at_most(old, other, spans):
        return other
    return constant_form(greatest_of((greatest_over(old, spans), greatest_over(other, spans))))


def _lower_of(old, other, spans):
    if is_at_most(old, other, spans):
        return old
    if is_at_most(other, old, spans):
        return other
    return constant_form(least_of((least_over(old, spans), least_over(other, spans))))
