import random
import time

from farheld.drivebelow import drive_below, ticks_below
from farheld.errors import BadBound, BadLate, NoFit, NoLeast, NotBelow, NotLink, TooFar, TooWide
from farheld.fitting import delay_program, still_program
from farheld.forms import make_form
from farheld.leastbound import find_least, late_lengths
from farheld.leastprogram import least_program
from farheld.programs import Coder, Controller, Program
from farheld.ratios import compare, make_ratio, size_of, times
from farheld.running import Run, run_fault, walk
from tests.helpers import NO_RATIOS, HeldTest, clean_use, clean_world, plain_plant
from tests.programs import some_program
from tests.test_leastbound import Facts, fraction_of, link, some_link


def below(ratio, hundredths):
    return times(ratio, make_ratio(hundredths, 100))


def wide_program(source, world, states, registers, size=4):
    """Return a program whose coder has as many thresholds, memories and replies as a coder may have."""
    words, outcomes = world.sensors[0].channel.words, world.outcomes[0]
    rows, rules = [], []
    for _ in range(states):
        moves = []
        for _ in range(outcomes):
            changes = []
            for register in range(registers):
                part = (source.randrange(registers), make_ratio(source.randint(1, 5), 6))
                changes.append((register, make_form(make_ratio(source.randint(-3, 3), 7), part)))
            parts = [(register, (1, 3)) for register in range(min(registers, 3))]
            moves.append((source.randrange(states), changes, [(0, make_form(make_ratio(source.randint(-3, 3), 5), *parts))]))
        rows.append(((0,), moves))
        thresholds = [make_form(make_ratio(source.randint(-100 * size, 100 * size), 100)) for _ in range(100)]
        rules.append((True, [(0, thresholds)], [(source.randrange(words), source.randrange(99)) for _ in range(99 * 101)]))
    return Program(Controller((outcomes,), 1, [(0, 1)] * registers, rows), [Coder(words, (0,), rules, 99)])


def bound_of_last_tick(world, late):
    """Return a bound that late lengths pass first in tick 199."""
    lengths = late_lengths(world, late, 200)
    most = lengths[0]
    for length in lengths[:199]:
        most = length if compare(length, most) > 0 else most
    return most


class DriveBelowTest(HeldTest):
    def check_drive(self, world, program, bound, late):
        """Check the run of drive_below, and that it has the first ticks whose late length is above the bound."""
        run = drive_below(world, program, bound, late)
        ticks = ticks_below(world, bound, late)
        lengths = Facts(world).late(late, ticks + 1)
        self.assertGreater(lengths[ticks], fraction_of(bound))
        self.assertLessEqual(max([0] + lengths[:ticks]), fraction_of(bound))
        self.assertIsInstance(run, Run)
        self.are_tuples((run.start, run.liars, run.ticks))
        self.assertEqual((run.liars, len(run.ticks)), ((), ticks))
        try:
            delayed = delay_program(program, late)
        except BadLate:
            return None
        self.assertIsNone(run_fault(world, delayed, run))
        last = walk(world, delayed, run)[-1]
        self.assertGreater(compare(size_of(last.positions[0]), bound), 0)
        return run

    def test_drawn_programs(self):
        source = random.Random(1)
        for _ in range(250):
            world, late = some_link(source), source.randint(0, 3)
            program = some_program(source, world)
            least = find_least(world, late)
            bound = below(least.bound, source.randint(1, 99)) if least is not None else make_ratio(source.randint(1, 60), 2)
            self.check_drive(world, program, bound, late)

    def test_least_programs_are_driven_beyond_all_lesser_bounds(self):
        source = random.Random(2)
        for _ in range(60):
            world, late = some_link(source, 4), source.randint(0, 3)
            try:
                program = least_program(world, late)
            except (NoLeast, TooWide):
                continue
            least = find_least(world, late).bound
            for hundredths in (1, 50, 90, 99):
                self.check_drive(world, program, below(least, hundredths), late)

    def test_no_ticks_at_all(self):
        world = link([(3, 2)], [clean_use(2)], start=(9, 1))
        for late in range(4):
            self.assertEqual(ticks_below(world, (89, 10), late), 0)
            run = self.check_drive(world, still_program(world), (89, 10), late)
            self.assertEqual(run.ticks, ())

    def test_ticks_by_hand(self):
        world = clean_world((3, 2), 2, 1)
        for bound, ticks in (((1, 2), 1), ((99, 100), 1), ((1, 1), 2), ((7, 4), 3), ((36, 16), 3), ((37, 16), 4)):
            bound = make_ratio(*bound)
            self.assertEqual(ticks_below(world, bound), ticks)
            self.assertEqual(ticks_below(world, bound, 0), ticks)
            self.check_drive(world, still_program(world), bound, 0)
        self.assertEqual([ticks_below(world, (1, 1), late) for late in range(4)], [2, 2, 2, 2])
        self.assertEqual([ticks_below(world, (15, 4), late) for late in range(4)], [10, 4, 3, 3])

    def test_exactly_the_least_bound_and_just_below_it(self):
        for start, late in (((0, 1), 0), ((0, 1), 2), ((5, 1), 0), ((5, 1), 3), ((4, 1), 1)):
            world = link([(-3, 2)], [clean_use(2)], (1, 1), start)
            least = find_least(world, late)
            for bound in (least.bound, times(least.bound, (101, 100)), (10 ** 6, 1)):
                self.raises(NotBelow, {"least": least.bound}, ticks_below, world, bound, late)
                self.raises(NotBelow, {"least": least.bound}, drive_below, world, still_program(world), bound, late)
            self.check_drive(world, still_program(world), times(least.bound, (999, 1000)), late)
            if least.reached:
                self.check_drive(world, still_program(world), times(least.bound, make_ratio(10 ** 40 - 1, 10 ** 40)), late)

    def test_the_last_tick_that_is_near_enough(self):
        for factors, uses in (([(3, 2)], [clean_use(2)]), ([(7, 2)], [clean_use(4)]), ([(1, 1)], [((0,), (0,))]), ([(2, 1)], [clean_use(2)])):
            for late in (0, 3):
                world = link(factors, uses)
                bound = bound_of_last_tick(world, late)
                self.assertEqual(ticks_below(world, bound, late), 199)
                self.check_drive(world, still_program(world), bound, late)
                more = late_lengths(world, late, 200)[199]
                self.raises(TooFar, {"ticks": 200}, ticks_below, world, more, late)
                self.raises(TooFar, {"ticks": 200}, drive_below, world, still_program(world), more, late)

    def test_delayed_programs_that_are_too_large_to_build(self):
        source = random.Random(3)
        world = link([(7, 2)], [clean_use(12)])
        program = some_program(source, world, states=3)
        self.raises(BadLate, {"late": 3}, delay_program, program, 3)
        run = drive_below(world, program, (5, 1), 3)
        self.assertEqual(len(run.ticks), ticks_below(world, (5, 1), 3))
        # Played by hand, outcomes reach the controller three ticks late.
        controller, coder = program.controller, program.coders[0]
        position, memory, state, registers = run.start[0], coder.first, controller.first, controller.registers
        for tick, (words, outcomes, pushes) in enumerate(run.ticks):
            word, memory = coder.say(state, registers, memory, (position,))
            self.assertEqual((words, outcomes), ((word,), (word,)))
            moved = fraction_of(position) * fraction_of(world.plant.factors[0][0]) + fraction_of(pushes[0])
            if tick >= 3:
                move = controller.find_move(state, run.ticks[tick - 3][1])
                value = sum(fraction_of(form[0]) + sum(fraction_of(by) * fraction_of(registers[at]) for at, by in form[1]) for _, form in move[2])
                moved += value
                told = list(registers)
                for register, form in move[1]:
                    worth = fraction_of(form[0]) + sum(fraction_of(by) * fraction_of(registers[at]) for at, by in form[1])
                    told[register] = make_ratio(worth.numerator, worth.denominator)
                state, registers = move[0], tuple(told)
            position = make_ratio(moved.numerator, moved.denominator)
            self.assertLessEqual(compare(size_of(pushes[0]), (1, 1)), 0)
        self.assertGreater(compare(size_of(position), (5, 1)), 0)

    def test_errors_in_order(self):
        world, rising = clean_world((3, 2), 2, 1), clean_world((3, 1), 2, 1)
        good = still_program(world)
        three = Program(good.controller, [Coder(3, (0,), [(False, (), [(0, None)])])])
        other = still_program(clean_world((3, 2), 2, 2))
        self.raises(NotLink, {"what": "sensor"}, ticks_below, clean_world((3, 2), 2, 2), None, 9)
        self.raises(NotLink, {"what": "sensor"}, drive_below, clean_world((3, 2), 2, 2), good, None, 9)
        self.raises(NotLink, {"what": "lot"}, drive_below, clean_world((3, 2), 2, 1, [(0,)]), three, None, 9)
        self.raises(NoFit, {"fault": ("words", 0)}, drive_below, world, three, None, 9)
        self.raises(NoFit, {"fault": ("outcomes", 1)}, drive_below, world, other, None, 9)
        modes = still_program(clean_world((3, 2), 2, 1).with_plant(plain_plant((3, 2), (1, 2))))
        self.raises(NoFit, {"fault": ("modes", 0)}, drive_below, world, modes, (1, 1))
        for bound in NO_RATIOS + ((0, 1), (-3, 1)):
            self.raises(BadBound, {"bound": bound}, ticks_below, world, bound, 9)
            self.raises(BadBound, {"bound": bound}, drive_below, world, good, bound, 9)
        for late in (-1, 4, None, True, False, "1", (1, 1)):
            for bound in ((1, 1), (100, 1)):
                self.raises(BadLate, {"late": late}, ticks_below, world, bound, late)
                self.raises(BadLate, {"late": late}, drive_below, world, good, bound, late)
        self.raises(NotBelow, {"least": (4, 1)}, drive_below, world, good, (4, 1))
        self.raises(TooFar, {"ticks": 200}, drive_below, rising, good, (10 ** 50, 1))

    def test_wide_programs_in_time(self):
        source = random.Random(4)
        begun = time.time()
        for factors, uses, late in (
            ([(3, 2)], [clean_use(2)], 0), ([(3, 2)], [clean_use(2)], 3), ([(11, 12)], [((0,), (0,))], 0),
            ([(11, 10)] * 4, [((0,), (0,))] * 3 + [((0,), (1,))], 1), ([(7, 2)], [clean_use(12)], 2),
        ):
            world = link(factors, uses)
            bound = bound_of_last_tick(world, late) if len(factors) == 1 else below(find_least(world, late).bound, 99)
            for states, registers in ((1, 0), (5, 24)):
                program = wide_program(source, world, states, registers)
                run = drive_below(world, program, bound, late)
                self.assertEqual(len(run.ticks), ticks_below(world, bound, late))
        self.assertLess(time.time() - begun, 6)
