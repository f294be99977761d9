"""Programs for worlds: whether they fit, one that does nothing, and ones that hear later."""

from farheld.errors import BadLate
from farheld.programs import MOST_STATES, STILL_ROWS, STILL_RULES, Coder, Controller, Program
from farheld.ratios import is_whole

MOST_LATE = 3
MOST_MOVES = 50000


def still_program(world):
    """Return the program that has one state and never does anything."""
    controller = Controller(world.outcomes, world.plant.modes, (), STILL_ROWS)
    return Program(controller, [Coder(sensor.channel.words, sensor.seen, STILL_RULES) for sensor in world.sensors])


def fit_fault(world, program):
    """Return the first reason why a program does not fit a world, None if it fits."""
    controller = program.controller
    if controller.modes != world.plant.modes:
        return ("modes", 0)
    place = _first_difference(controller.outcomes, world.outcomes)
    if place is not None:
        return ("outcomes", place)
    for at, (sensor, coder) in enumerate(zip(world.sensors, program.coders)):
        if coder.words > sensor.channel.words:
            return ("words", at)
        if not all([mode in sensor.seen for mode in coder.modes]):
            return ("seen", at)
    return None


def delay_program(program, late):
    """Return the program that does the same with outcomes that reach its controller so many ticks later."""
    if not is_whole(late, 0, MOST_LATE):
        raise BadLate(late)
    if late == 0:
        return Program(program.controller, program.coders)
    delay = Delay(program, late)
    states = delay.begin + len(program) * delay.pending
    if states > MOST_STATES or states * delay.many > MOST_MOVES:
        raise BadLate(late)
    controller = program.controller
    heeds = tuple(range(len(controller.outcomes)))
    rows = [(heeds, moves) for moves in delay.waiting_moves()]
    for state in range(len(program)):
        rows.extend([(heeds, moves) for moves in delay.moves_of(state)])
    coders = []
    for coder in program.coders:
        rules = [coder.rules[controller.first]] * delay.begin
        for rule in coder.rules:
            rules.extend([rule] * delay.pending)
        coders.append(coder.with_rules(tuple(rules), coder.first))
    return Program(controller.with_rows(tuple(rows), 0), coders)


class Delay:
    """How the states of a delayed program are numbered.

    `many` is the number of outcome rows, `pending` that of rows of `late` of them, and `begin`
    the first state in which the program itself has begun.
    """

    def __init__(self, program, late):
        self.controller = program.controller
        self.rows = _outcome_rows(self.controller.outcomes)
        self.many = len(self.rows)
        self.late = late
        self.pending = _times_itself(self.many, late)
        self.begin = sum([_times_itself(self.many, length) for length in range(late)])

    def waiting_moves(self):
        """Return the moves of each state in which outcomes are only gathered."""
        told = []
        last = self.begin - _times_itself(self.many, self.late - 1)
        for state in range(self.begin):
            # The states of a length are followed by those of the next one, row by row.
            first = state * self.many + 1
            if state >= last:
                first += self.controller.first * self.pending
            told.append(tuple([(first + number, (), ()) for number in range(self.many)]))
        return told

    def moves_of(self, state):
        """Return the moves of a state of the program, for each row of pending outcome rows."""
        older = self.pending // self.many
        made = [self.controller.find_move(state, row) for row in self.rows]
        told = []
        for pending in range(self.pending):
            behind, changes, steps = made[pending // older]
            first = self.begin + behind * self.pending + pending % older * self.many
            told.append(tuple([(first + number, changes, steps) for number in range(self.many)]))
        return told


def _first_difference(one, other):
    """Return the first place at which two rows differ or the shorter one ends, None for equal ones."""
    if one == other:
        return None
    for place, (many, others) in enumerate(zip(one, other)):
        if many != others:
            return place
    return min(len(one), len(other))


def _outcome_rows(outcomes):
    """Return all outcome rows, ascending."""
    rows = [()]
    for many in outcomes:
        rows = [row + (outcome,) for row in rows for outcome in range(many)]
    return rows


def _times_itself(number, times):
    product = 1
    for _ in range(times):
        product *= number
    return product
