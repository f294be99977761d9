"""Programs: a controller of registers and states, and a coder for each of its sensors."""

from farheld.errors import BadOrder, BadProgram, NoEntry
from farheld.forms import form_value, registers_of
from farheld.moves import MOST_REGISTERS, kept_move, kept_reply, kept_row, kept_rule
from farheld.ranks import in_order
from farheld.ratios import compare, is_ratio, is_whole
from farheld.sequences import is_ascending, is_order, is_sequence, places_of

MOST_SENSORS = 4
MOST_MODES = 3
MOST_NAMES = 12
MOST_STATES = 2000
MOST_MEMORIES = 1000

STILL_ROWS = (((), ((0, (), ()),)),)
STILL_RULES = ((False, (), ((0, None),)),)


class Controller:
    """States with moves that change registers and steer modes by the outcomes that come."""

    def __init__(self, outcomes, modes, registers, rows, first=0):
        _check_controller(outcomes, modes, registers, rows, first)
        self.outcomes = tuple(outcomes)
        self.modes = modes
        self.registers = tuple(registers)
        self.rows = tuple([kept_row(row, len(rows), self.outcomes, len(registers), modes) for row in rows])
        self.first = first
        self.loud_state = _find_loud_state(self.rows)

    def __len__(self):
        return len(self.rows)

    def __eq__(self, other):
        if not isinstance(other, Controller):
            return False
        if self.outcomes != other.outcomes or self.modes != other.modes or self.registers != other.registers:
            return False
        return self.rows == other.rows and self.first == other.first

    def find_move(self, state, outcomes):
        """Return the move of a state for one outcome of each sensor."""
        heeds, moves = self.rows[state]
        place = 0
        for sensor in heeds:
            place = place * self.outcomes[sensor] + outcomes[sensor]
        return moves[place]

    def with_rows(self, rows, first):
        """Return the controller with other rows, which are taken as they are: tuples that were checked."""
        made = Controller(self.outcomes, self.modes, self.registers, STILL_ROWS)
        made.rows = rows
        made.first = first
        made.loud_state = _find_loud_state(rows)
        return made


class Coder:
    """The rules by which a sensor gives words, one for each state of the controller."""

    def __init__(self, words, modes, rules, memories=1, first=0):
        _check_coder(words, modes, rules, memories, first)
        self.words = words
        self.modes = tuple(modes)
        self.rules = tuple([kept_rule(rule, words, self.modes, memories) for rule in rules])
        self.memories = memories
        self.first = first
        self.registers_needed = registers_in(self.rules)

    def __eq__(self, other):
        if not isinstance(other, Coder):
            return False
        if self.words != other.words or self.modes != other.modes or self.rules != other.rules:
            return False
        return self.memories == other.memories and self.first == other.first

    def find_cuts(self, state, registers):
        """Return (mode, ascending values of the thresholds) for each look of the state's rule."""
        _, looks, _ = self.rules[state]
        cuts = []
        for mode, thresholds in looks:
            values = [form_value(form, registers) for form in thresholds]
            cuts.append((mode, tuple(in_order(values))))
        return tuple(cuts)

    def find_places(self, state, registers, positions):
        """Return the place of the positions at each look of the state's rule."""
        _, looks, _ = self.rules[state]
        places = []
        for mode, thresholds in looks:
            passed = [form for form in thresholds if compare(form_value(form, registers), positions[mode]) <= 0]
            places.append(len(passed))
        return tuple(places)

    def find_reply(self, state, memory, places):
        """Return the word and the next memory for a row of places."""
        recall, looks, replies = self.rules[state]
        at = memory if recall else 0
        for (_, thresholds), place in zip(looks, places):
            at = at * (len(thresholds) + 1) + place
        word, behind = replies[at]
        return (word, memory if behind is None else behind)

    def say(self, state, registers, memory, positions):
        """Return the word and the next memory at these positions."""
        return self.find_reply(state, memory, self.find_places(state, registers, positions))

    def with_rules(self, rules, first):
        """Return the coder with other rules, which are taken as they are: with looks and replies that were checked."""
        made = Coder(self.words, self.modes, STILL_RULES, self.memories)
        made.rules = rules
        made.first = first
        made.registers_needed = self.registers_needed
        return made


class Program:
    """A controller with a coder for each of its sensors."""

    def __init__(self, controller, coders):
        many = len(controller.outcomes)
        if not is_sequence(coders, many, many) or not all([isinstance(coder, Coder) for coder in coders]):
            raise BadProgram("program", "coders")
        for sensor, coder in enumerate(coders):
            _check_match(controller, sensor, coder)
        self.controller = controller
        self.coders = tuple(coders)

    def __len__(self):
        return len(self.controller.rows)

    def __eq__(self, other):
        if not isinstance(other, Program):
            return False
        return self.controller == other.controller and self.coders == other.coders

    def with_move(self, state, place, move):
        """Return the program with another move at a place of a state's moves."""
        controller = self.controller
        _check_entry("state", state, len(controller.rows))
        heeds, moves = controller.rows[state]
        _check_entry("place", place, len(moves))
        kept = kept_move(move, len(controller.rows), len(controller.registers), controller.modes)
        row = (heeds, _replaced(moves, place, kept))
        return Program(controller.with_rows(_replaced(controller.rows, state, row), controller.first), self.coders)

    def with_reply(self, sensor, state, place, reply):
        """Return the program with another reply at a place of a coder's rule for a state."""
        _check_entry("sensor", sensor, len(self.coders))
        _check_entry("state", state, len(self.controller.rows))
        coder = self.coders[sensor]
        recall, looks, replies = coder.rules[state]
        _check_entry("place", place, len(replies))
        kept = _replaced(replies, place, kept_reply(reply, coder.words, coder.memories))
        rules = _replaced(coder.rules, state, (recall, looks, kept))
        return self._with_coder(sensor, coder.with_rules(rules, coder.first))

    def rename_states(self, names):
        """Return the program in which state s has the number names[s]."""
        controller = self.controller
        if not is_order(names, len(controller.rows)):
            raise BadOrder("states")
        olds = places_of(names)
        rows = [_renamed_row(controller.rows[old], names) for old in olds]
        coders = []
        for coder in self.coders:
            coders.append(coder.with_rules(tuple([coder.rules[old] for old in olds]), coder.first))
        return Program(controller.with_rows(tuple(rows), names[controller.first]), coders)

    def rename_memories(self, sensor, names):
        """Return the program in which a coder's memory m has the number names[m]."""
        _check_entry("sensor", sensor, len(self.coders))
        coder = self.coders[sensor]
        if not is_order(names, coder.memories):
            raise BadOrder("memories")
        olds = places_of(names)
        rules = tuple([_renamed_rule(rule, names, olds) for rule in coder.rules])
        return self._with_coder(sensor, coder.with_rules(rules, names[coder.first]))

    def _with_coder(self, sensor, coder):
        return Program(self.controller, _replaced(self.coders, sensor, coder))


def registers_in(rules):
    """Return how many registers there must be for the thresholds of rules."""
    forms = [form for _, looks, _ in rules for _, thresholds in looks for form in thresholds]
    return max([0] + [registers_of(form) for form in forms])


def _check_controller(outcomes, modes, registers, rows, first):
    if not is_sequence(outcomes, 0, MOST_SENSORS) or not all([is_whole(many, 1, MOST_NAMES) for many in outcomes]):
        raise BadProgram("controller", "outcomes")
    if not is_whole(modes, 1, MOST_MODES):
        raise BadProgram("controller", "modes")
    if not is_sequence(registers, 0, MOST_REGISTERS) or not all([is_ratio(one) for one in registers]):
        raise BadProgram("controller", "registers")
    if not is_sequence(rows, 1, MOST_STATES):
        raise BadProgram("controller", "rows")
    if not is_whole(first, 0, len(rows) - 1):
        raise BadProgram("controller", "first")


def _find_loud_state(rows):
    """Return the least state whose moves have unlike steps, None if there is none."""
    for state, (_, moves) in enumerate(rows):
        _, _, steps = moves[0]
        if not all([others == steps for _, _, others in moves]):
            return state
    return None


def _check_coder(words, modes, rules, memories, first):
    if not is_whole(words, 1, MOST_NAMES):
        raise BadProgram("coder", "words")
    if not is_ascending(modes, 0, MOST_MODES, MOST_MODES):
        raise BadProgram("coder", "modes")
    if not is_whole(memories, 1, MOST_MEMORIES):
        raise BadProgram("coder", "memories")
    if not is_whole(first, 0, memories - 1):
        raise BadProgram("coder", "first")
    if not is_sequence(rules, 1, MOST_STATES):
        raise BadProgram("coder", "rules")


def _check_match(controller, sensor, coder):
    if len(coder.rules) != len(controller.rows):
        raise BadProgram(sensor, "rules")
    if coder.modes and coder.modes[-1] >= controller.modes:
        raise BadProgram(sensor, "modes")
    if coder.registers_needed > len(controller.registers):
        raise BadProgram(sensor, "thresholds")


def _check_entry(what, place, many):
    if not is_whole(place, 0, many - 1):
        raise NoEntry(what)


def _replaced(row, place, thing):
    return row[:place] + (thing,) + row[place + 1:]


def _renamed_row(row, names):
    heeds, moves = row
    return (heeds, tuple([(names[state], changes, steps) for state, changes, steps in moves]))


def _renamed_rule(rule, names, olds):
    recall, looks, replies = rule
    told = [(word, None if memory is None else names[memory]) for word, memory in replies]
    if recall:
        many = len(told) // len(olds)
        told = [reply for old in olds for reply in told[old * many:(old + 1) * many]]
    return (recall, looks, tuple(told))
