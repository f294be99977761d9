"""Motions: the moves of a program as a keeping asks for them, by numbers where they are compared often."""

from farheld.formsums import constant_form, greatest_over, least_over, negative_form, sum_of_forms
from farheld.ratios import ONE, ZERO


class Motion:
    """A move: the next state, the changes, and the step of each mode.

    `place` is the first place of an equal move in the row; moves of one `kind` differ at most in the next
    state and in the constants of the steps.
    """

    def __init__(self, place, move, kind, steps):
        self.place = place
        self.state = move[0]
        self.changes = move[1]
        self.kind = kind
        self.steps = steps


class Change:
    """What the changes of a move make of registers within spans: the next forms, and their spans."""

    def __init__(self, changes, spans):
        self.nexts = [(ZERO, ((register, ONE),)) for register in range(len(spans))]
        self.spans = list(spans)
        self.changed = {}
        for register, form in changes:
            self.nexts[register] = form
            self.spans[register] = (least_over(form, spans), greatest_over(form, spans))
            self.changed[register] = True

    def leaves(self, form):
        """Tell whether the registers of a form have no change."""
        _, parts = form
        return not any([register in self.changed for register, _ in parts])


class Look:
    """A look of a coder, with what must be at most 0 over spans if its thresholds are to ascend there."""

    def __init__(self, mode, thresholds):
        self.mode = mode
        self.thresholds = thresholds
        self._gaps = []
        self._rises = True
        for at in range(len(thresholds) - 1):
            gap = sum_of_forms(thresholds[at], negative_form(thresholds[at + 1]))
            if gap[1]:
                self._gaps.append(gap)
            elif gap[0][0] > 0:
                self._rises = False

    def is_ascending(self, spans):
        """Tell whether each threshold is at most the one behind it all over the spans."""
        return self._rises and all([greatest_over(gap, spans)[0] <= 0 for gap in self._gaps])


class Frame:
    """A world, a program and a lot, with what all lines of a keeping ask of them."""

    def __init__(self, world, program, lot):
        self.world = world
        self.program = program
        self.lot = lot
        self.forms = []
        self._numbers = {}
        self._kinds = {}
        self._motions = {}
        self._heard = {}
        self._looks = {}

    def form_number(self, form):
        """Return the number of a form, which is its place in `forms`."""
        if form not in self._numbers:
            self._numbers[form] = len(self.forms)
            self.forms.append(form)
        return self._numbers[form]

    def motions_of(self, state):
        """Return the motion of each move of a state."""
        if state not in self._motions:
            _, moves = self.program.controller.rows[state]
            known = {}
            for place, move in enumerate(moves):
                if move not in known:
                    known[move] = self._new_motion(place, move)
            self._motions[state] = [known[move] for move in moves]
        return self._motions[state]

    def looks_of(self, sensor, state):
        """Return the looks of a coder in a state."""
        if (sensor, state) not in self._looks:
            _, looks, _ = self.program.coders[sensor].rules[state]
            self._looks[(sensor, state)] = [Look(mode, thresholds) for mode, thresholds in looks]
        return self._looks[(sensor, state)]

    def outcomes_of(self, sensor, phase, word):
        """Return the outcomes that can come of a word, of any word if it is None."""
        row = self.world.sensors[sensor].channel.table[phase]
        if word is not None:
            return row[word]
        if (sensor, phase) not in self._heard:
            self._heard[(sensor, phase)] = sorted(set([outcome for heard in row for outcome in heard]))
        return self._heard[(sensor, phase)]

    def _new_motion(self, place, move):
        steps = [constant_form(ZERO)] * self.world.plant.modes
        for mode, form in move[2]:
            steps[mode] = form
        changes = tuple([(register, self.form_number(form)) for register, form in move[1]])
        like = (changes, tuple([self.form_number((ZERO, parts)) for _, parts in steps]))
        return Motion(place, move, self._kinds.setdefault(like, len(self._kinds)), steps)
