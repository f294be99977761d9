"""Compiled programs: they keep a kept world within told bounds, block by block."""

from farheld.blockforms import half_forms, input_forms
from farheld.blockplans import BlockPlan
from farheld.blockrules import Witness
from farheld.blocks import block_ticks, bounds_of, check_splits, guess_halves
from farheld.digits import multiplied
from farheld.errors import TooLarge
from farheld.fitting import MOST_MOVES
from farheld.programs import MOST_STATES, STILL_ROWS, STILL_RULES, Coder, Controller, Program, registers_in
from farheld.ratios import is_whole, plus, times
from farheld.splits import plan_splits


class Compiled:
    """A program for a world with the splits that it was made of, and what each of its states stands for."""

    def __init__(self, world, splits, program, places):
        self.world = world
        self.splits = splits
        self.program = program
        self.places = places
        self.halves = guess_halves(world, splits)
        self.bounds = bounds_of(world, splits, self.halves)

    def __eq__(self, other):
        if not isinstance(other, Compiled):
            return False
        if self.world != other.world or self.splits != other.splits:
            return False
        return self.program == other.program and self.places == other.places

    def find_place(self, state):
        """Return (place of the lot guessed, tick of the block, whether the guess is struck) of a state."""
        return self.places[state]

    def block_state(self, place):
        """Return the state at the begin of a block that guesses the lot at a place."""
        return list(self.places).index((place, 0, False))

    def halves_at(self, state, registers, ticks=0):
        """Return the halves so many ticks behind a block's begin, None if the state begins no block."""
        place, tick, _ = self.places[state]
        if tick > 0 or not is_whole(ticks, 0, block_ticks(self.world, self.splits[place]) - 1):
            return None
        plant = self.world.plant
        halves = list(self.halves[place])
        for register, mode in enumerate(plant.growing):
            halves[mode] = registers[register]
        told = []
        for mode, half in enumerate(halves):
            told.append(plus(times(plant.growth(mode, 0, ticks), half), plant.gathered(mode, 0, ticks)))
        return tuple(told)


def compile_world(world, blocks=8, idle=0):
    """Return the compiled program of the splits that are planned for a kept world."""
    return compile_splits(world, plan_splits(world, blocks, idle))


def compile_splits(world, splits):
    """Return the compiled program of right splits, one for each lot."""
    check_splits(world, splits)
    plans = [BlockPlan(world, split) for split in splits]
    states = Layout(plans).all_states()
    moves = Moves(plans)
    rows = tuple([(state.heeds, moves.moves_of(state)) for state in states])
    registers = [world.plant.starts[mode] for mode in world.plant.growing]
    controller = Controller(world.outcomes, world.plant.modes, registers, STILL_ROWS).with_rows(rows, 0)
    coders = [_coder_of(plans, sensor, states) for sensor in range(len(world.sensors))]
    places = tuple([(state.place, state.tick, state.key is None) for state in states])
    return Compiled(world, tuple(splits), Program(controller, coders), places)


class State:
    """A state of the controller: what is gathered at a tick of a block, and the keys behind its moves."""

    def __init__(self, place, tick, key, heeds, keys_behind):
        self.place = place
        self.tick = tick
        self.key = key
        self.heeds = heeds
        self.keys_behind = keys_behind
        self.numbers = {}


class Layout:
    """The states of all blocks: first those that begin one, then block by block and tick by tick."""

    def __init__(self, plans):
        self._plans = plans
        self._begun = []
        self._later = []
        self._moves = 0
        for place in range(len(plans)):
            self._add_block(place)

    def all_states(self):
        """Return all states in the order of their numbers."""
        return self._begun + self._later

    def _add_block(self, place):
        plan = self._plans[place]
        keys = [plan.first_key()]
        for tick in range(plan.ticks):
            level = [self._new_state(place, tick, key) for key in keys]
            if tick == 0:
                self._begun.extend(level)
            else:
                self._later.extend(level)
            if tick + 1 < plan.ticks:
                keys = list({key: True for state in level for key in state.keys_behind})
                first = len(self._plans) + len(self._later)
                if first + len(keys) > MOST_STATES:
                    raise TooLarge()
                numbers = {key: first + at for at, key in enumerate(keys)}
                for state in level:
                    state.numbers = numbers

    def _new_state(self, place, tick, key):
        plan = self._plans[place]
        heeds = plan.heeded(tick, key)
        self._moves += multiplied([plan.world.outcomes[sensor] for sensor in heeds])
        if self._moves > MOST_MOVES:
            raise TooLarge()
        return State(place, tick, key, heeds, plan.next_keys(tick, key, heeds))


class Moves:
    """The moves of all states; those of a block's last tick steer the modes and lead to the next block."""

    def __init__(self, plans):
        self._plans = plans
        self._changes = [[half_forms(plan, False), half_forms(plan, True)] for plan in plans]
        self._last = {}

    def moves_of(self, state):
        """Return the moves of a state for each row of the outcomes that it heeds."""
        if state.tick + 1 < self._plans[state.place].ticks:
            return tuple([(state.numbers[key], (), ()) for key in state.keys_behind])
        return tuple([self._last_move(state.place, key) for key in state.keys_behind])

    def _last_move(self, place, key):
        if (place, key) not in self._last:
            kept, struck = self._changes[place]
            if key is None:
                move = (place + 1, struck, ())
            else:
                move = (place, kept, input_forms(self._plans[place], key))
            self._last[(place, key)] = move
        return self._last[(place, key)]


def _coder_of(plans, sensor, states):
    """Return the coder of a sensor."""
    witnesses = [Witness(plan, sensor) for plan in plans]
    memories = max([witness.memories for witness in witnesses])
    rules = tuple([witnesses[state.place].rule_at(state.tick, state.key, memories) for state in states])
    told = plans[0].world.sensors[sensor]
    made = Coder(told.channel.words, told.seen, STILL_RULES, memories).with_rules(rules, 0)
    made.registers_needed = registers_in(rules)
    return made
