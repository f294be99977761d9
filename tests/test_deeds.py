import random
import time

from farheld.channels import Channel
from farheld.compiling import compile_world
from farheld.deeds import (
    DeedPose, deed_bounds, deed_words, find_offset, first_deeds, plain_pose, play_deed, quiet_fault, read_number,
    walk_deeds,
)
from farheld.errors import BadRun, BadStart, BadTick, NotQuiet, TooLarge, TooNear
from farheld.fitting import still_program
from farheld.forms import make_form
from farheld.plants import Plant
from farheld.programs import Coder, Controller, Program
from farheld.ratios import compare, make_ratio, minus, plus, size_of, times
from farheld.running import Pose, Run, first_pose, honest_words, play_run, play_tick, run_fault, walk
from farheld.worlds import Sensor, World
from tests.compiled import some_kept_world, wild_run
from tests.helpers import NO_SEQUENCES, HeldTest, as_lists, clean_world, plain_plant, whole
from tests.programs import some_plant_world, some_program, some_run


def quieted(program):
    """Return the program in which all moves of a state have the steps of its first one."""
    controller = program.controller
    rows = []
    for heeds, moves in controller.rows:
        rows.append((heeds, [(state, changes, moves[0][2]) for state, changes, _ in moves]))
    told = Controller(controller.outcomes, controller.modes, controller.registers, rows, controller.first)
    return Program(told, program.coders)


def loud_program(world, quiet_states=0):
    """Return a program of the world's outcomes whose states are quiet at first, loud later."""
    heeds = tuple(range(len(world.sensors)))
    quiet = (heeds, [(0, (), ())] * world.outcome_rows)
    loud = (heeds, [(0, (), [(0, make_form((number, 1)))]) for number in range(world.outcome_rows)])
    rows = [quiet] * quiet_states + [loud, quiet, loud]
    coders = [Coder(1, (), [(False, (), [(0, None)])] * len(rows)) for _ in world.sensors]
    return Program(Controller(world.outcomes, world.plant.modes, (), rows), coders)


class QuietTest(HeldTest):
    def test_quiet_fault(self):
        world = clean_world((3, 2), 2, 2)
        self.assertIsNone(quiet_fault(still_program(world)))
        for quiet in (0, 1, 5):
            self.assertEqual(quiet_fault(loud_program(world, quiet)), quiet)
        self.assertEqual(quiet_fault(compile_world(clean_world((3, 2), 2, 1)).program), 0)
        self.assertIsNone(quiet_fault(compile_world(clean_world((5, 4), 2, 1), 8, 1).program))

    def test_changes_and_states_may_differ_but_no_steps(self):
        steps = [(0, make_form((1, 1), (0, (1, 2))))]
        coder = Coder(2, (0,), [(False, (), [(0, None)])] * 2)
        same = ((0,), [(0, [(0, make_form((5, 1)))], steps), (1, (), steps)])
        for other, state in ((steps, None), ([], 1), ([(0, make_form((1, 1)))], 1), ([(0, make_form((1, 1), (0, (1, 3))))], 1)):
            rows = [same, ((0,), [(0, (), steps), (0, (), other)])]
            program = Program(Controller((2,), 1, whole(1), rows), [coder])
            self.assertEqual(quiet_fault(program), state)
        program = Program(Controller((2,), 1, whole(1), [same, same]), [coder])
        self.assertIsNone(quiet_fault(program))
        self.assertEqual(quiet_fault(program.with_move(1, 0, (0, (), ()))), 1)
        self.assertIsNone(quiet_fault(program.with_move(1, 0, (0, (), ())).with_move(1, 1, (0, (), ()))))
        self.assertEqual(quiet_fault(program.with_move(0, 1, (0, (), ())).rename_states([1, 0])), 1)

    def test_not_quiet_comes_ahead_of_all_else(self):
        world = clean_world((3, 2), 2, 2)
        program = loud_program(world, 1)
        pose = DeedPose(0, whole(0), whole(0), 0, (), ((0, 0, (), 0),) * 2)
        self.raises(NotQuiet, {"state": 1}, first_deeds, world, program, None)
        self.raises(NotQuiet, {"state": 1}, deed_words, world, program, pose)
        self.raises(NotQuiet, {"state": 1}, play_deed, world, program, pose, None)
        self.raises(NotQuiet, {"state": 1}, walk_deeds, world, program, Run(None, None, None))


class NumberTest(HeldTest):
    def world(self):
        return World(Plant([[(2, 1)], [(1, 2)]], [(2, 3), (1, 1)], whole(0, 0)), [Sensor((0, 1), Channel.clean(3))] * 2)

    def test_offsets(self):
        world = self.world()
        self.assertEqual([find_offset(world, 0, number) for number in (0, 1, 8)], [(0, 1), (2, 1), (16, 1)])
        self.assertEqual([find_offset(world, 1, number) for number in (0, 1, 8)], list(whole(0, 3, 24)))
        self.assertEqual(deed_bounds(world, ((1, 2), (0, 1))), ((33, 2), (24, 1)))
        self.assertEqual(deed_bounds(world, [(1, 2), (0, 1)]), ((33, 2), (24, 1)))
        self.assertEqual(deed_bounds(World(plain_plant((2, 1)), ()), ((5, 2),)), ((5, 2),))

    def test_read_numbers(self):
        world = self.world()
        for number in range(9):
            offset = find_offset(world, 0, number)
            for side in ((-2, 3), (-1, 3), (0, 1), (1, 7), (2, 3)):
                self.assertEqual(read_number(world, 0, plus(offset, side)), number)
            for side in ((67, 100), (1, 1), (133, 100)):
                self.assertIsNone(read_number(world, 0, plus(offset, side)))
        for moved in ((-67, 100), (-1, 1), (-9, 1), (1667, 100), (18, 1), (1000, 1)):
            self.assertIsNone(read_number(world, 0, moved))
        self.assertEqual([read_number(world, 1, moved) for moved in whole(-2, -1, 1, 2, 4, 5, 23, 25, 26)], [None, 0, 0, 1, 1, 2, 8, 8, None])

    def test_many_outcome_rows(self):
        world = World(Plant([[(2, 1)]], [(1, 7)], whole(0)), [Sensor((0,), Channel.clean(12))] * 4)
        for number in (0, 1, 20734, 20735):
            offset = find_offset(world, 0, number)
            self.assertEqual(offset, make_ratio(3 * number, 7))
            for side in ((-1, 7), (0, 1), (1, 7)):
                self.assertEqual(read_number(world, 0, plus(offset, side)), number)
        self.assertIsNone(read_number(world, 0, find_offset(world, 0, 20736)))
        self.assertIsNone(read_number(world, 0, minus((0, 1), (2, 7))))

    def test_without_sensors_there_is_one_number(self):
        world = World(plain_plant((2, 1)), ())
        self.assertEqual([read_number(world, 0, moved) for moved in whole(-2, -1, 0, 1, 2, 3)], [None, 0, 0, 0, None, None])


class DeedTest(HeldTest):
    def test_a_pose_by_hand(self):
        # Two clean words: outcome 1 has the offset 3; the coder says on which side of 0 the mode is.
        world = clean_world((2, 1), 2, 1)
        steps = [(0, make_form((0, 1), (0, (-1, 1))))]
        rows = [((0,), [(0, [(0, make_form((1, 1)))], steps), (0, [(0, make_form((2, 1)))], steps)])]
        coder = Coder(2, (0,), [(False, [(0, [make_form((0, 1))])], [(0, None), (1, None)])])
        program = Program(Controller((2,), 1, whole(5), rows), [coder])
        pose = first_deeds(world, program, [(0, 1)])
        self.assertEqual(pose, DeedPose(0, whole(0), whole(0), 0, whole(5), ((0, 0, whole(5), 0),)))
        self.assertEqual(deed_words(world, program, pose), (1,))
        behind = play_deed(world, program, pose, [[1], [1], [(1, 2)]])
        # 2 * 0 - 5 + 1/2 + 3: the coder reads number 1 and so sets its register to 2.
        self.assertEqual(behind, DeedPose(1, ((-3, 2),), whole(3), 0, whole(2), ((1, 0, whole(2), 0),)))
        self.assertEqual(deed_words(world, program, behind), (0,))
        later = play_deed(world, program, behind, ((0,), (0,), ((-1, 1),)))
        # 2 * (-3/2 - 3) - 2 - 1 without an offset.
        self.assertEqual(later, DeedPose(2, whole(-12), whole(0), 0, whole(1), ((0, 0, whole(1), 0),)))
        self.assertEqual(plain_pose(behind), Pose(1, ((-9, 2),), 0, whole(2), (0,)))
        self.are_tuples(behind.positions + behind.offsets + behind.copies + behind.registers)

    def test_words_follow_the_copies_alone(self):
        world = clean_world((2, 1), 2, 1)
        rule = (True, [(0, [make_form((0, 1), (0, (1, 1)))])], [(0, None), (1, None), (1, 0), (0, 1)])
        program = Program(Controller((2,), 1, whole(0), [((), [(0, (), ())])] * 2), [Coder(2, (0,), [rule, (False, (), [(1, 1)])], 2)])
        for copy, position, word in (
            ((0, 0, whole(0), 0), 0, 1), ((0, 0, whole(1), 0), 0, 0), ((0, 0, whole(1), 1), 0, 1), ((0, 1, whole(1), 0), 0, 1),
            ((1, 0, whole(0), 0), 0, 0), ((1, 0, whole(0), 0), 2, 0), ((1, 0, whole(0), 0), 3, 1), ((1, 0, whole(-1), 1), 3, 0),
        ):
            # The controller's own state and offsets are other ones; nobody sees them.
            pose = DeedPose(4, whole(position), whole(3), 1, whole(77), (copy,))
            self.assertEqual(deed_words(world, program, pose), (word,))

    def test_a_coder_that_reads_nothing_keeps_its_copy(self):
        world = clean_world((2, 1), 2, 1)
        change = [(0, make_form((1, 1), (0, (1, 1))))]
        rows = [((0,), [(1, change, ()), (0, change, ())])] * 2
        program = Program(Controller((2,), 1, whole(0), rows), [Coder(2, (0,), [(False, (), [(0, 1)])] * 2, 2)])
        sound = DeedPose(0, whole(0), whole(0), 0, whole(0), ((0, 0, whole(0), 0),))
        self.assertEqual(play_deed(world, program, sound, ((0,), (0,), whole(0))).copies, ((0, 1, whole(1), 1),))
        # This copy takes an offset of 3 for granted that is not there: it sees 0 - 2 * (0 - 3) = 6.
        wrong = DeedPose(0, whole(0), whole(0), 0, whole(0), ((1, 0, whole(0), 0),))
        behind = play_deed(world, program, wrong, ((0,), (0,), whole(0)))
        self.assertEqual(behind, DeedPose(1, whole(0), whole(0), 1, whole(1), ((1, 0, whole(0), 0),)))

    def test_a_sensor_reads_its_least_mode_by_its_own_inputs(self):
        plant = Plant([[(2, 1)], [(3, 1)]], [(1, 1), (1, 2)], whole(4, 4))
        world = World(plant, [Sensor((1,), Channel.clean(2)), Sensor((0, 1), Channel.clean(3))])
        steps = [(0, make_form((0, 1), (0, (1, 1)))), (1, make_form((7, 1)))]
        rows = [((0, 1), [(0, [(0, make_form((number, 1)))], steps) for number in range(6)])]
        coders = [Coder(2, (1,), [(False, (), [(0, None)])]), Coder(3, (0,), [(False, (), [(2, None)])])]
        program = Program(Controller((2, 3), 2, whole(0), rows), coders)
        pose = first_deeds(world, program, whole(4, -4))
        behind = play_deed(world, program, pose, ((1, 2), (1, 2), ((1, 1), (-1, 2))))
        self.assertEqual(behind.offsets, ((15, 1), (15, 2)))
        self.assertEqual(behind.positions, ((24, 1), (2, 1)))
        self.assertEqual(behind.copies, ((5, 0, whole(5), 0), (5, 0, whole(5), 0)))
        # A copy with another register reads what it takes for the push otherwise, on mode 0 alone.
        odd = DeedPose(0, whole(4, -4), whole(0, 0), 0, whole(0), ((0, 0, whole(3), 0), (0, 0, whole(3), 0)))
        told = play_deed(world, program, odd, ((1, 2), (1, 2), ((1, 1), (-1, 2)))).copies
        self.assertEqual(told, ((5, 0, whole(5), 0), (4, 0, whole(4), 0)))

    def test_wrong_starts_ticks_and_runs(self):
        world = World(plain_plant((2, 1), (1, 2), start=(1, 1)), [Sensor((0,), Channel.clean(2))])
        program = still_program(world)
        for start in NO_SEQUENCES + ((), whole(1), whole(1, 1, 1), [(1, 1), 1]):
            self.raises(BadStart, {"mode": 0}, first_deeds, world, program, start)
        self.raises(BadStart, {"mode": 1}, first_deeds, world, program, whole(1, -2))
        pose = first_deeds(world, program, whole(1, -1))
        for tick, what in (
            (None, "tick"), ((1, 2), "tick"), ({}, "tick"), ("abc", "tick"), (((2,), (0,), whole(0, 0)), "words"), (((True,), (1,), whole(0, 0)), "words"),
            (((0,), (1,), whole(0, 0)), "outcomes"), (((0,), None, whole(0, 0)), "outcomes"), (((0,), (False,), whole(0, 0)), "outcomes"),
            (((0,), (0,), whole(0)), "pushes"), (((0,), (0,), whole(0, 2)), "pushes"), (((0,), (0,), [[0, 1], [0, 1]]), "pushes"),
        ):
            self.raises(BadTick, {"what": what}, play_deed, world, program, pose, tick)
        # The words need not be honest in a tick, but they must be in a run without liars.
        play_deed(world, program, pose, ((1,), (1,), whole(0, 0)))
        good = ((0,), (0,), whole(0, 0))
        for run, fault in (
            (Run(whole(2, 0), (), ()), (0, "start")), (Run(whole(0, 0), (0,), ()), (0, "liars")), (Run(whole(0, 0), (), (good, good, None)), (2, "tick")),
            (Run(whole(0, 0), (), (good, ((1,), (1,), whole(0, 0)))), (1, "honest")), (Run(whole(0, 0), (), (((0,), (0,), whole(2, 0)),)), (0, "pushes")),
        ):
            self.raises(BadRun, {"tick": fault[0], "what": fault[1]}, walk_deeds, world, program, run)

    def test_equality(self):
        parts = (1, whole(1), whole(2), 0, whole(3), ((0, 0, whole(3), 0),))
        pose = DeedPose(*parts)
        self.assertTrue(pose == DeedPose(*parts))
        self.assertFalse(pose != DeedPose(*parts))
        for at in range(6):
            other = DeedPose(*[None if place == at else worth for place, worth in enumerate(parts)])
            self.assertFalse(pose == other)
            self.assertTrue(pose != other)
        self.assertFalse(pose == parts)
        kept = [0, [1], [2], 3, [4], [5]]
        told = DeedPose(*kept)
        self.assertIs(told.positions, kept[1])
        self.assertIs(told.copies, kept[5])


class WalkTest(HeldTest):
    def check_walk(self, world, program, run):
        poses, plain = walk_deeds(world, program, run), walk(world, program, run)
        self.assertIsInstance(poses, tuple)
        self.assertEqual(len(poses), len(run.ticks) + 1)
        self.assertEqual(tuple(plain_pose(pose) for pose in poses), plain)
        number = 0
        for at, pose in enumerate(poses):
            self.assertEqual(pose.offsets, tuple(find_offset(world, mode, number) for mode in range(world.plant.modes)))
            for copy in pose.copies:
                self.assertEqual(copy[:3], (number, pose.state, pose.registers))
            self.assertEqual(deed_words(world, program, pose), honest_words(program, plain[at]))
            if at < len(run.ticks):
                self.assertEqual(play_deed(world, program, pose, run.ticks[at]), poses[at + 1])
                self.assertEqual(play_tick(world, program, plain[at], run.ticks[at]), plain[at + 1])
                number = world.row_number(run.ticks[at][1])
        return poses

    def test_drawn_quiet_programs(self):
        source = random.Random(5)
        loud = 0
        for _ in range(120):
            world = some_plant_world(source)
            program = some_program(source, world)
            loud += quiet_fault(program) is not None
            program = quieted(program)
            run = play_run(world, program, *some_run(source, world, program, 8))
            self.check_walk(world, program, run)
            self.check_walk(world, program, Run(list(run.start), list(run.liars), as_lists(run.ticks)))
        self.assertGreater(loud, 20)

    def test_pushes_at_both_ends(self):
        source = random.Random(6)
        for _ in range(30):
            world = some_plant_world(source)
            program = quieted(some_program(source, world))
            start, liars, picks = some_run(source, world, program, 6)
            ended = [(lies, choices, [times(push, (source.choice((-1, 1)), 1)) for push in world.plant.pushes]) for lies, choices, _ in picks]
            self.check_walk(world, program, play_run(world, program, start, liars, ended))

    def test_compiled_programs_keep_within_deed_bounds(self):
        source = random.Random(7)
        told = 0
        while told < 12:
            world = some_kept_world(source)
            try:
                compiled = compile_world(world, 8, 1)
            except (TooNear, TooLarge):
                continue
            told += 1
            bounds = deed_bounds(world, compiled.bounds)
            self.are_tuples(bounds)
            run = wild_run(source, compiled, 2)
            self.assertIsNone(run_fault(world, compiled.program, run))
            for pose in self.check_walk(world, compiled.program, run):
                for position, bound in zip(pose.positions, bounds):
                    self.assertLessEqual(compare(size_of(position), bound), 0)

    def test_without_sensors(self):
        world = World(plain_plant((1, 2), (-1, 3), start=(2, 1)), ())
        program = quieted(some_program(random.Random(8), world))
        run = play_run(world, program, whole(2, -2), (), [((), (), whole(1, -1))] * 4)
        poses = self.check_walk(world, program, run)
        self.assertEqual(poses[0].copies, ())
        self.assertEqual(first_pose(world, program, whole(2, -2)), plain_pose(poses[0]))

    def test_long_runs_in_time(self):
        source = random.Random(9)
        plant = Plant([[(11, 10)] * 2], whole(1), whole(1))
        world = World(plant, [Sensor((0,), Channel.clean(12, 2))] * 4, [(0,)])
        compiled = compile_world(World(plant, world.sensors[:2]), 8, 1)
        begun = time.time()
        run = wild_run(source, compiled, 1000 // (2 * compiled.splits[0].periods))
        self.check_walk(compiled.world, compiled.program, run)
        program = quieted(some_program(source, world))
        run = play_run(world, program, *some_run(source, world, program, 400))
        walk_deeds(world, program, run)
        self.assertLess(time.time() - begun, 5)
