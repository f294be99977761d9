"""Least programs: they keep a link within its least bound, however late outcomes reach the controller."""

from farheld.digits import multiplied
from farheld.errors import NoLeast, TooWide
from farheld.forms import make_form
from farheld.leastbound import find_least, link_numbers, outcomes_at
from farheld.moves import MOST_REPLIES, MOST_THRESHOLDS
from farheld.programs import MOST_MEMORIES, Coder, Controller, Program
from farheld.ranks import ranks_of
from farheld.ratios import ZERO, make_ratio, negative, plus, times


def least_program(world, late=0):
    """Return a program whose delayed runs stay within the least bound."""
    least = find_least(world, late)
    if least is None:
        raise NoLeast()
    cells = Cells(world, late, least.lengths)
    channel = world.sensors[0].channel
    rows = [((0,), cells.moves_at(phase)) for phase in range(world.period)]
    controller = Controller(world.outcomes, 1, (), rows)
    # The coder knows the phase by its memory, so its rule is the same in all states.
    rules = [cells.rule()] * world.period
    return Program(controller, [Coder(channel.words, (0,), rules, len(cells.memories))])


class Cells:
    """The cells of a link: in each tick the stretch around the middle that all words sent leave is cut into equal ones.

    A memory is a couple (phase, cells of the last `late` ticks; of all, ahead of tick `late`).
    """

    def __init__(self, world, late, lengths):
        self._world = world
        self._late = late
        self._lengths = lengths
        self._numbers = link_numbers(world)
        self._check_width()
        self.memories = self._list_memories()
        self._places = {memory: place for place, memory in enumerate(self.memories)}

    def moves_at(self, phase):
        """Return the moves of the state in which the outcome of a tick of a phase reaches the controller."""
        unlike = outcomes_at(self._world, phase)
        behind = (phase + 1) % self._world.period
        carried = self._world.plant.carried(0, phase, self._late + 1)
        told = []
        for outcome in range(self._world.outcomes[0]):
            cell = unlike.index(outcome) if outcome in unlike else 0
            step = negative(times(carried, self._middle_of(phase, cell)))
            told.append((behind, (), ((0, make_form(step)),)))
        return told

    def rule(self):
        """Return the coder's rule: all memories' thresholds in one look, and replies for each memory."""
        thresholds = []
        for memory in self.memories:
            thresholds.extend([(place, memory) for place in self._thresholds_of(memory)])
        ranks = ranks_of([place for place, _ in thresholds])
        order = sorted([(ranks[place], self._places[memory]) for place, memory in thresholds])
        replies = []
        for at, memory in enumerate(self.memories):
            cell = 0
            replies.append(self._reply_of(memory, cell))
            for _, owner in order:
                if owner == at:
                    cell += 1
                replies.append(self._reply_of(memory, cell))
        return (True, [(0, [make_form(place) for place, _ in thresholds])], replies)

    def _reply_of(self, memory, cell):
        """Return the word of a cell and the next memory."""
        phase, cells = memory
        outcome = outcomes_at(self._world, phase)[cell]
        word = self._world.sensors[0].channel.table[phase].index((outcome,))
        return (word, self._places[((phase + 1) % self._world.period, self._cells_behind(cells, cell))])

    def _cells_behind(self, cells, cell):
        told = cells + (cell,)
        return told[1:] if len(told) > self._late else told

    def _thresholds_of(self, memory):
        phase, cells = memory
        number = self._numbers[phase]
        middle = ZERO
        for back, cell in enumerate(reversed(list(cells)), 1):
            since = (phase - back) % self._world.period
            middle = plus(middle, times(self._world.plant.carried(0, since, back), self._middle_of(since, cell)))
        length = self._lengths[phase]
        return [plus(middle, times(length, make_ratio(2 * cell - number, number))) for cell in range(1, number)]

    def _middle_of(self, phase, cell):
        """Return the middle of a cell, less that of the stretch that is cut."""
        number = self._numbers[phase]
        return times(self._lengths[phase], make_ratio(2 * cell + 1 - number, number))

    def _phases_of_memories(self):
        """Return (phase, number of ticks) of the cells that each memory has."""
        period = self._world.period
        return [(tick % period, tick) for tick in range(self._late)] + [(phase, self._late) for phase in range(period)]

    def _numbers_ahead(self, phase, ticks):
        return [self._numbers[(phase - back) % self._world.period] for back in range(ticks, 0, -1)]

    def _check_width(self):
        memories = 0
        thresholds = 0
        for phase, ticks in self._phases_of_memories():
            many = multiplied(self._numbers_ahead(phase, ticks))
            memories += many
            thresholds += many * (self._numbers[phase] - 1)
        if memories > MOST_MEMORIES or thresholds > MOST_THRESHOLDS or memories * (thresholds + 1) > MOST_REPLIES:
            raise TooWide(self._late)

    def _list_memories(self):
        told = []
        for phase, ticks in self._phases_of_memories():
            rows = [()]
            for number in self._numbers_ahead(phase, ticks):
                rows = [row + (cell,) for row in rows for cell in range(number)]
            told.extend([(phase, row) for row in rows])
        return told
