import itertools
import random
import time
from fractions import Fraction

from farheld.channels import Channel
from farheld.errors import BadLate
from farheld.fitting import delay_program, fit_fault, still_program
from farheld.plants import Plant
from farheld.programs import Coder, Controller, Program
from farheld.running import play_run, run_fault, walk
from farheld.worlds import Sensor, World
from tests.helpers import NO_WHOLES, HeldTest, clean_world, plain_plant, whole
from tests.programs import some_controller, some_plant_world, some_program, some_run

STILL = ((), ((0, (), ()),))


def chain(states, outcomes=(), modes=1):
    """Return a program whose state goes on by one in each tick, without registers and words."""
    rows = [((), ((min(state + 1, states - 1), (), ()),)) for state in range(states)]
    coders = [Coder(1, (), [(False, (), ((0, None),))] * states)] * len(outcomes)
    return Program(Controller(outcomes, modes, (), rows), coders)


def value_of(form, registers):
    return Fraction(*form[0]) + sum(Fraction(*multiple) * registers[at] for at, multiple in form[1])


def late_poses(world, program, run, late):
    """Return (positions, registers, memories) of each tick if outcomes reach the controller late, by the plain words."""
    controller = program.controller
    positions = [Fraction(*one) for one in run.start]
    registers = [Fraction(*one) for one in controller.registers]
    state, memories = controller.first, [coder.first for coder in program.coders]
    poses = [(positions, registers, memories)]
    for tick, (words, outcomes, pushes) in enumerate(run.ticks):
        said = []
        for coder, memory in zip(program.coders, memories):
            at = [(one.numerator, one.denominator) for one in registers]
            said.append(coder.say(state, at, memory, [(one.numerator, one.denominator) for one in positions]))
        for sensor, (word, _) in enumerate(said):
            assert sensor in run.liars or words[sensor] == word
        memories = [memory for _, memory in said]
        inputs = [Fraction(0)] * len(positions)
        before = registers
        if tick >= late:
            state, changes, steps = controller.find_move(state, run.ticks[tick - late][1])
            registers = list(registers)
            for register, form in changes:
                registers[register] = value_of(form, before)
            for mode, form in steps:
                inputs[mode] = value_of(form, before)
        factors = [Fraction(*row[tick % world.period]) for row in world.plant.factors]
        moved = zip(positions, factors, inputs, pushes)
        positions = [one * factor + step + Fraction(*push) for one, factor, step, push in moved]
        poses.append((positions, registers, memories))
    return poses


class StillTest(HeldTest):
    def test_still_program(self):
        sensors = [Sensor((0, 1), Channel.clean(3)), Sensor((1,), Channel(5, [((0, 4), (1,))]))]
        program = still_program(World(plain_plant((2, 1), (3, 1)), sensors))
        coders = [Coder(3, (0, 1), [(False, (), ((0, None),))]), Coder(2, (1,), [(False, (), ((0, None),))])]
        self.assertEqual(program, Program(Controller((3, 5), 2, (), (STILL,)), coders))
        self.assertEqual(still_program(World(plain_plant((2, 1)), ())).coders, ())

    def test_it_fits(self):
        source = random.Random(710)
        for _ in range(30):
            world = some_plant_world(source)
            self.assertIsNone(fit_fault(world, still_program(world)))
            self.assertIsNone(fit_fault(world, some_program(source, world)))


class FitTest(HeldTest):
    def setUp(self):
        self.world = World(plain_plant((2, 1), (3, 1)), [Sensor((0,), Channel.clean(3)), Sensor((0, 1), Channel.clean(2))])

    def program(self, outcomes=(3, 2), modes=2, words=(3, 2), seen=((0,), (0, 1))):
        coders = [Coder(many, told, [(False, (), ((0, None),))]) for many, told in zip(words, seen)]
        return Program(Controller(outcomes, modes, (), (STILL,)), coders)

    def test_words(self):
        self.assertIsNone(fit_fault(self.world, self.program()))
        self.assertIsNone(fit_fault(self.world, self.program(words=(1, 1), seen=((), (1,)))))
        self.assertEqual(fit_fault(self.world, self.program(modes=3, outcomes=(2, 2))), ("modes", 0))
        self.assertEqual(fit_fault(self.world, self.program(modes=1, seen=((0,), (0,)))), ("modes", 0))
        self.assertEqual(fit_fault(self.world, self.program(outcomes=(2, 3), words=(4, 4))), ("outcomes", 0))
        self.assertEqual(fit_fault(self.world, self.program(outcomes=(3, 3), words=(4, 4))), ("outcomes", 1))
        self.assertEqual(fit_fault(self.world, self.program(outcomes=(3,), words=(4,))), ("outcomes", 1))
        self.assertEqual(fit_fault(self.world, self.program(outcomes=(), words=())), ("outcomes", 0))
        three = self.program(outcomes=(3, 2, 1), words=(4, 4, 4), seen=((0,), (0,), (0,)))
        self.assertEqual(fit_fault(self.world, three), ("outcomes", 2))
        self.assertEqual(fit_fault(self.world, self.program(words=(4, 3), seen=((1,), (0,)))), ("words", 0))
        self.assertEqual(fit_fault(self.world, self.program(words=(3, 3), seen=((1,), (0,)))), ("seen", 0))
        self.assertEqual(fit_fault(self.world, self.program(words=(3, 3))), ("words", 1))
        world = World(self.world.plant, [self.world.sensors[0], Sensor((1,), Channel.clean(2))])
        self.assertEqual(fit_fault(world, self.program()), ("seen", 1))


class DelayTest(HeldTest):
    def test_late_0_gives_an_equal_program(self):
        program = chain(3, (2,))
        new = delay_program(program, 0)
        self.assertEqual(new, program)
        self.assertIsNot(new, program)

    def test_states_by_the_words(self):
        world = World(plain_plant((2, 1)), [Sensor((0,), Channel.clean(2)), Sensor((0,), Channel.clean(3))])
        source = random.Random(713)
        for late in (1, 2, 3):
            program = some_program(source, world, states=2)
            while program.controller.first == 0:
                program = some_program(source, world, states=2)
            new = delay_program(program, late)
            names = [(None, row) for length in range(late) for row in itertools.product(range(6), repeat=length)]
            names += [(state, row) for state in range(2) for row in itertools.product(range(6), repeat=late)]
            self.assertEqual((len(new), new.controller.first), (len(names), 0))
            self.assertEqual(new.controller.registers, program.controller.registers)
            for at, (state, pending) in enumerate(names):
                heeds, moves = new.controller.rows[at]
                self.assertEqual((heeds, len(moves)), ((0, 1), 6))
                for number, move in enumerate(moves):
                    row = pending + (number,)
                    if state is None:
                        behind = (None if len(row) < late else 1, row)
                        due = ((), ())
                    else:
                        oldest = world.row_of(row[0])
                        told = program.controller.find_move(state, oldest)
                        behind, due = (told[0], row[1:]), told[1:]
                    self.assertEqual(move, (names.index(behind),) + due)
                for one, other in zip(new.coders, program.coders):
                    self.assertEqual(one.rules[at], other.rules[1 if state is None else state])
            self.are_tuples([new.controller.rows, new.coders[0].rules][0])
            for one, other in zip(new.coders, program.coders):
                self.assertEqual((one.words, one.modes, one.memories, one.first), (other.words, other.modes, other.memories, other.first))
            told = new.controller
            rebuilt = Controller(told.outcomes, told.modes, told.registers, told.rows, told.first)
            coders = [Coder(one.words, one.modes, one.rules, one.memories, one.first) for one in new.coders]
            self.assertEqual(Program(rebuilt, coders), new)

    def test_runs_by_the_words(self):
        source = random.Random(714)
        for _ in range(60):
            world = some_plant_world(source, sensors=source.randint(0, 2))
            program = some_program(source, world)
            late = source.randint(0, 3)
            new = delay_program(program, late)
            self.assertIsNone(fit_fault(world, new))
            run = play_run(world, new, *some_run(source, world, new, 7))
            self.assertIsNone(run_fault(world, new, run))
            for pose, (positions, registers, memories) in zip(walk(world, new, run), late_poses(world, program, run, late)):
                self.assertEqual([Fraction(*one) for one in pose.positions], positions)
                self.assertEqual([Fraction(*one) for one in pose.registers], registers)
                self.assertEqual(list(pose.memories), memories)

    def test_wrong_lates(self):
        program = chain(2)
        for thing in NO_WHOLES + (-1, 4):
            self.raises(BadLate, {"late": thing}, delay_program, program, thing)

    def test_2000_states_and_more(self):
        # Without sensors there is one outcome row: late states wait, then those of the program follow.
        self.assertEqual(len(delay_program(chain(1997), 3)), 2000)
        self.raises(BadLate, {"late": 3}, delay_program, chain(1998), 3)
        self.assertEqual(len(delay_program(chain(1998), 2)), 2000)
        self.assertEqual(len(delay_program(chain(2000), 0)), 2000)
        self.raises(BadLate, {"late": 1}, delay_program, chain(2000), 1)

    def test_50000_moves_and_more(self):
        # With 12 outcome rows: 1 + 12 + 144 + 12 ** 3 times the states; moves are 12 times as many.
        self.assertEqual(len(delay_program(chain(1, (12,)), 3)), 1885)
        self.raises(BadLate, {"late": 3}, delay_program, chain(2, (12,)), 3)
        # 1 + 25 * 79 = 1976 states of 25 rows are 49400 moves, 1 + 25 * 80 = 2001 states are too many.
        self.assertEqual(len(delay_program(chain(79, (5, 5)), 1)), 1976)
        self.raises(BadLate, {"late": 1}, delay_program, chain(80, (5, 5)), 1)
        fifty = some_controller(random.Random(1), (10, 5), 1, states=19, registers=0)
        coders = [Coder(1, (), [(False, (), ((0, None),))] * 19)] * 2
        self.assertEqual(len(delay_program(Program(fifty, coders), 1)), 951)
        wide = chain(19, (12, 5))
        self.raises(BadLate, {"late": 1}, delay_program, wide, 1)
        self.assertEqual(len(delay_program(chain(13, (12, 5)), 1)), 781)
        # 1 + 49 * 20 = 981 states of 49 rows are 48069 moves, 1 + 49 * 21 = 1030 are 50470.
        self.assertEqual(len(delay_program(chain(20, (7, 7)), 1)), 981)
        self.raises(BadLate, {"late": 1}, delay_program, chain(21, (7, 7)), 1)

    def test_just_50000_moves_are_never_needed(self):
        for late in (1, 2, 3):
            for rows in range(25, 224):
                waiting = sum(rows ** length for length in range(late))
                self.assertFalse([states for states in range(1, 80) if (waiting + states * rows ** late) * rows == 50000])

    def test_the_largest_are_quick(self):
        replies = [(place % 12, place % 1000) for place in range(10000)]
        looks = [(0, [((place, 1), ()) for place in range(9)])]
        coder = Coder(12, (0,), [(True, looks, replies)], 1000)
        moves = [(0, [(0, ((1, 1), ((0, (1, 2)),)))], [(0, ((place, 1), ()))]) for place in range(12)]
        program = Program(Controller((12,), 1, [(0, 1)], [((0,), moves)]), [coder])
        begun = time.process_time()
        new = delay_program(program, 3)
        for thing in (1, 2, 3):
            self.raises(BadLate, {"late": thing}, delay_program, chain(1, (12, 12, 12, 12)), thing)
        self.assertLess(time.process_time() - begun, 2)
        self.assertEqual((len(new), new.coders[0].rules[1884]), (1885, coder.rules[0]))

    def test_an_empty_plant_of_sensors(self):
        world = World(Plant([[(1, 2)]], whole(1), whole(1)), ())
        program = chain(3)
        new = delay_program(program, 2)
        self.assertEqual([row[1][0][0] for row in new.controller.rows], [1, 2, 3, 4, 4])
        self.assertIsNone(fit_fault(world, new))
        self.assertEqual(fit_fault(clean_world((1, 2), 2, 1), new), ("outcomes", 0))
