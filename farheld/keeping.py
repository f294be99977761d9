"""Keepings: tables of what can stand, which no tick leaves while the liars are within a lot."""

from farheld.errors import BadKeeping
from farheld.fitting import fit_fault
from farheld.forms import form_value, kept_form
from farheld.formsums import greatest_over, is_within, least_over
from farheld.lots import lies_within
from farheld.motions import Frame
from farheld.ratios import ZERO, compare, greatest_of, is_ratio, is_whole, negative, size_of
from farheld.running import walk
from farheld.sequences import is_ascending, is_couple, is_sequence
from farheld.ways import Reach

MOST_LINES = 2000
MOST_LIARS = 4


class Keeping:
    """Lines (key, spans, ends) that certify bounds while the liars are within a lot."""

    def __init__(self, lot, lines):
        if not is_ascending(lot, 0, MOST_LIARS, MOST_LIARS):
            raise BadKeeping("lot", 0)
        if not is_sequence(lines, 0, MOST_LINES):
            raise BadKeeping("lines", 0)
        kept = {}
        first = None
        for index, line in enumerate(lines):
            told = _kept_line(index, line, kept, first)
            first = told if first is None else first
            kept[told[0]] = told
        self.lot = tuple(lot)
        self.lines = tuple([kept[key] for key in sorted(kept)])

    def __eq__(self, other):
        if not isinstance(other, Keeping):
            return False
        return self.lot == other.lot and self.lines == other.lines


class KeepFault:
    """Why a keeping is not accepted, and the key at which it shows."""

    def __init__(self, what, key):
        self.what = what
        self.key = key

    def __eq__(self, other):
        if not isinstance(other, KeepFault):
            return False
        return self.what == other.what and self.key == other.key


def keeping_fault(world, program, keeping):
    """Return the first fault of a keeping, None if it is accepted."""
    if fit_fault(world, program) is not None:
        return KeepFault("program", None)
    if not is_group(world, keeping.lot):
        return KeepFault("lot", None)
    for line in keeping.lines:
        if not is_line_of(world, program, keeping.lot, line):
            return KeepFault("line", line[0])
    lines = {line[0]: line for line in keeping.lines}
    start = start_key(program, keeping.lot)
    if start not in lines or not _holds_starts(world, program, lines[start]):
        return KeepFault("start", start)
    return _find_gap(Frame(world, program, keeping.lot), keeping.lines)


def keepings_fault(world, program, keepings):
    """Return (place, fault) for the first lot of the world whose keeping is not accepted, None if all are."""
    for place, lot in enumerate(world.lots):
        if place >= len(keepings) or keepings[place].lot != lot:
            return (place, KeepFault("lot", None))
        fault = keeping_fault(world, program, keepings[place])
        if fault is not None:
            return (place, fault)
    return None


def keeping_bound(keeping):
    """Return for each mode the greatest size of its ends over the spans of all lines."""
    bounds = []
    for _, spans, ends in keeping.lines:
        if not bounds:
            bounds = [ZERO] * len(ends)
        for mode, both in enumerate(ends):
            sizes = [size_of(value) for form in both for value in (least_over(form, spans), greatest_over(form, spans))]
            bounds[mode] = greatest_of([bounds[mode]] + sizes)
    return tuple(bounds)


def leaving_tick(world, program, keeping, run):
    """Return the tick of the first pose of a run that no line holds, None if all are held."""
    lines = {line[0]: line for line in keeping.lines}
    for pose in walk(world, program, run):
        memories = without_lot(pose.memories, keeping.lot)
        key = (pose.tick % world.period, pose.state, memories)
        if key not in lines or not holds(lines[key], pose.registers, [pose.positions]):
            return pose.tick
    return None


def holds(line, registers, rows):
    """Tell whether a line holds registers with each of some rows of positions."""
    _, spans, ends = line
    if len(spans) != len(registers) or len(ends) != len(rows[0]):
        return False
    if not all([is_within((register, register), span) for register, span in zip(registers, spans)]):
        return False
    for mode, (low, high) in enumerate(ends):
        span = (form_value(low, registers), form_value(high, registers))
        if not all([is_within((row[mode], row[mode]), span) for row in rows]):
            return False
    return True


def is_group(world, lot):
    """Tell whether a tuple of sensors lies within a lot of the world."""
    return all([sensor < len(world.sensors) for sensor in lot]) and lies_within(lot, world.lots)


def is_line_of(world, program, lot, line):
    """Tell whether a line has a key, as many spans and as many ends as a world and a program ask."""
    (phase, state, memories), spans, ends = line
    if phase >= world.period or state >= len(program) or len(memories) != len(program.coders):
        return False
    for sensor, (memory, coder) in enumerate(zip(memories, program.coders)):
        if memory >= (1 if sensor in lot else coder.memories):
            return False
    return len(spans) == len(program.controller.registers) and len(ends) == world.plant.modes


def start_key(program, lot):
    """Return the key of tick 0."""
    return (0, program.controller.first, without_lot([coder.first for coder in program.coders], lot))


def without_lot(memories, lot):
    """Return memories with those of a lot written 0."""
    return tuple([0 if sensor in lot else memory for sensor, memory in enumerate(memories)])


def _find_gap(frame, lines):
    """Return the fault of the first line of which something comes that no line takes in, None if there is none."""
    places = {line[0]: place for place, line in enumerate(lines)}
    for line in lines:
        reach = Reach(frame, line)
        ways = reach.list_ways()
        if not all([way.key in places for way in ways]):
            return KeepFault("lacking", line[0])
        for way in ways:
            place = places[way.key]
            if not reach.takes_in(way, lines[place], place):
                return KeepFault("open", line[0])
    return None


def _holds_starts(world, program, line):
    starts = world.plant.starts
    return holds(line, program.controller.registers, [starts, [negative(start) for start in starts]])


def _kept_line(index, line, kept, first):
    """Return a line as tuples, or raise BadKeeping."""
    if not is_sequence(line, 3, 3):
        raise BadKeeping("line", index)
    key = _kept_key(line[0])
    if key is None or key in kept:
        raise BadKeeping("key", index)
    spans = _kept_spans(line[1])
    if spans is None or first is not None and len(spans) != len(first[1]):
        raise BadKeeping("spans", index)
    ends = _kept_ends(line[2], len(spans))
    if ends is None or first is not None and len(ends) != len(first[2]):
        raise BadKeeping("ends", index)
    return (key, spans, ends)


def _kept_key(thing):
    if not is_sequence(thing, 3, 3) or not is_sequence(thing[2]):
        return None
    phase, state, memories = thing
    if not all([is_whole(number, 0) for number in [phase, state] + list(memories)]):
        return None
    return (phase, state, tuple(memories))


def _kept_spans(thing):
    if not is_sequence(thing):
        return None
    told = []
    for span in thing:
        if not is_couple(span) or not is_ratio(span[0]) or not is_ratio(span[1]) or compare(span[0], span[1]) > 0:
            return None
        told.append((span[0], span[1]))
    return tuple(told)


def _kept_ends(thing, registers):
    if not is_sequence(thing):
        return None
    told = []
    for both in thing:
        if not is_couple(both):
            return None
        forms = tuple([kept_form(form, registers) for form in both])
        if None in forms:
            return None
        told.append(forms)
    return tuple(told)
