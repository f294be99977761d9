"""Programs as texts: rows of words."""

from farheld.errors import BadProgram, BadText
from farheld.programs import Coder, Controller, Program
from farheld.ratios import parse_ratio, ratio_text

# Which words may begin a row behind a row of the word; "" stands at the begin of the text.
NEXT_WORDS = {
    "": ("program",),
    "program": ("outcomes",),
    "outcomes": ("registers",),
    "registers": ("state", "coder"),
    "state": ("state", "move", "coder"),
    "move": ("state", "move", "coder"),
    "coder": ("modes",),
    "modes": ("coder", "rule"),
    "rule": ("look", "replies"),
    "look": ("look", "replies"),
    "replies": ("coder", "rule"),
}
LAST_WORDS = ("registers", "state", "move", "modes", "replies")
RECALLS = {"yes": True, "no": False}


def text_of_program(program):
    """Return the text of a program."""
    controller = program.controller
    rows = [f"program {controller.modes} {controller.first}"]
    rows.append(_row_text("outcomes", [str(many) for many in controller.outcomes]))
    rows.append(_row_text("registers", [ratio_text(one) for one in controller.registers]))
    for heeds, moves in controller.rows:
        rows.append(_row_text("state", [str(sensor) for sensor in heeds]))
        rows.extend([_move_text(move) for move in moves])
    for coder in program.coders:
        rows.append(f"coder {coder.words} {coder.memories} {coder.first}")
        rows.append(_row_text("modes", [str(mode) for mode in coder.modes]))
        for rule in coder.rules:
            rows.extend(_rule_texts(rule))
    return "\n".join(rows)


def program_of_text(text):
    """Return the program that has a text."""
    rows = text.split("\n")
    reading = Reading()
    for at, row in enumerate(rows):
        if not reading.take(row.split(" ")):
            raise BadText(at, "row")
    if reading.last not in LAST_WORDS:
        raise BadText(len(rows), "lacking")
    try:
        return reading.made_program()
    except BadProgram:
        raise BadText(0, "program") from None


class Reading:
    """What the rows of a text have told so far."""

    def __init__(self):
        self.last = ""
        self.head = None
        self.outcomes = None
        self.registers = None
        self.states = []
        self.coders = []
        # Long texts say the same words over and over, so what a word tells is kept.
        self._known_couples = {}
        self._known_forms = {}
        self._known_replies = {}

    def take(self, words):
        """Take the words of one row; tell whether it may stand here and is as it must be."""
        word, rest = words[0], words[1:]
        if word not in NEXT_WORDS[self.last]:
            return False
        self.last = word
        if word == "move":
            return self._take_move(rest)
        if word == "look":
            return self._take_look(rest)
        if word == "rule":
            return self._take_rule(rest)
        if word == "replies":
            return self._take_replies(rest)
        return self._take_numbers(word, rest)

    def made_program(self):
        """Return the program that was told, or raise BadProgram."""
        modes, first = self.head
        controller = Controller(self.outcomes, modes, self.registers, self.states, first)
        coders = []
        for words, memories, begun, seen, rules in self.coders:
            coders.append(Coder(words, seen, rules, memories, begun))
        return Program(controller, coders)

    def _take_numbers(self, word, rest):
        """Take a row that holds nothing but numbers."""
        numbers = [parse_ratio(one) if word == "registers" else _parse_number(one) for one in rest]
        if None in numbers:
            return False
        if word == "program":
            self.head = numbers
            return len(numbers) == 2
        if word == "coder":
            self.coders.append(numbers)
            return len(numbers) == 3
        if word == "outcomes":
            self.outcomes = numbers
        elif word == "registers":
            self.registers = numbers
        elif word == "state":
            self.states.append((numbers, []))
        else:
            self.coders[-1].extend([numbers, []])
        return True

    def _take_move(self, rest):
        told = [_parse_number(rest[0])] if rest else [None]
        changes = self._couples_of(rest[1:], "c")
        steps = self._couples_of(rest[1 + len(changes):], "u")
        told.extend(changes + steps)
        self.states[-1][1].append((told[0], changes, steps))
        return None not in told and len(told) == len(rest)

    def _couples_of(self, words, sign):
        """Return the couples (number, form) of the first words that begin with a sign, None for a wrong one."""
        told = []
        for word in words:
            if not word.startswith(sign):
                return told
            if word not in self._known_couples:
                self._known_couples[word] = _parse_couple(word[1:])
            told.append(self._known_couples[word])
        return told

    def _take_look(self, rest):
        if not rest:
            return False
        mode = _parse_number(rest[0])
        thresholds = [self._form_of(word) for word in rest[1:]]
        self.coders[-1][-1][-1][1].append((mode, thresholds))
        return mode is not None and None not in thresholds

    def _take_rule(self, rest):
        if len(rest) != 1 or rest[0] not in RECALLS:
            return False
        self.coders[-1][-1].append([RECALLS[rest[0]], []])
        return True

    def _take_replies(self, rest):
        replies = [self._reply_of(word) for word in rest]
        self.coders[-1][-1][-1].append(replies)
        return None not in replies

    def _form_of(self, word):
        if word not in self._known_forms:
            self._known_forms[word] = _parse_form(word)
        return self._known_forms[word]

    def _reply_of(self, word):
        if word not in self._known_replies:
            self._known_replies[word] = _parse_reply(word)
        return self._known_replies[word]


def _row_text(word, rest):
    return " ".join([word] + rest)


def _form_text(form):
    constant, parts = form
    return ",".join([ratio_text(constant)] + [f"{register}*{ratio_text(multiple)}" for register, multiple in parts])


def _move_text(move):
    state, changes, steps = move
    words = ["move", str(state)]
    words.extend([f"c{register}={_form_text(form)}" for register, form in changes])
    words.extend([f"u{mode}={_form_text(form)}" for mode, form in steps])
    return " ".join(words)


def _rule_texts(rule):
    recall, looks, replies = rule
    rows = ["rule yes" if recall else "rule no"]
    for mode, thresholds in looks:
        rows.append(_row_text("look", [str(mode)] + [_form_text(form) for form in thresholds]))
    words = [str(word) if memory is None else f"{word}:{memory}" for word, memory in replies]
    rows.append(_row_text("replies", words))
    return rows


def _parse_number(word):
    """Return the whole number of a whole word, None for any other word."""
    one = parse_ratio(word)
    return one[0] if one is not None and one[1] == 1 else None


def _parse_couple(word):
    """Return the couple (number, form) of a word, None for any other word."""
    number, _, form = word.partition("=")
    couple = (_parse_number(number), _parse_form(form))
    return None if None in couple else couple


def _parse_form(word):
    """Return the form of a word, None for any other word."""
    constant, *parts = word.split(",")
    told = tuple([_parse_part(part) for part in parts])
    one = parse_ratio(constant)
    return None if one is None or None in told else (one, told)


def _parse_part(word):
    register, _, multiple = word.partition("*")
    part = (_parse_number(register), parse_ratio(multiple))
    return None if None in part else part


def _parse_reply(word):
    """Return the reply of a word, None for any other word."""
    name, colon, memory = word.partition(":")
    if not colon:
        told = _parse_number(name)
        return None if told is None else (told, None)
    reply = (_parse_number(name), _parse_number(memory))
    return None if None in reply else reply
