import itertools
import random
import time
from fractions import Fraction

from farheld.channels import Channel
from farheld.errors import BadRun, BadStart, BadTick
from farheld.fitting import still_program
from farheld.plants import Plant
from farheld.programs import Coder, Controller, Program
from farheld.ratios import make_ratio
from farheld.running import (
    Pose, Run, beyond, first_pose, go_on, greatest_sizes, honest_words, play_run, play_tick, possible_outcomes,
    run_fault, walk,
)
from farheld.worlds import Sensor, World
from tests.helpers import NO_RATIOS, NO_SEQUENCES, NO_WHOLES, HeldTest, as_lists, clean_world, plain_plant, whole
from tests.programs import some_plant_world, some_program, some_run


def small_world():
    """Return a world of two modes and two phases; the first sensor's words are not told exactly."""
    plant = Plant([whole(2, -3), ((1, 2), (1, 1))], ((1, 1), (1, 2)), whole(4, 0))
    ring = Channel(3, [[(0, 1), (1, 2), (2,)], [(0,), (1,), (2,)]])
    return World(plant, [Sensor((0,), ring), Sensor((0, 1), Channel.clean(2, 2))], [[0], [1]])


def small_program():
    """Return a program in which each sensor says on which side its mode lies, and remembers it."""
    forward = [(1, [(0, ((1, 1), ((0, (2, 1)),)))], [(0, ((0, 1), ((0, (1, 1)),)))]), (0, [], [(1, ((1, 2), ()))])]
    rows = [((1,), forward), ((), [(0, [(0, ((5, 1), ()))], [])])]
    sides = (False, [(0, [((0, 1), ()), ((1, 1), ((0, (1, 1)),))])], [(0, 1), (1, None), (2, 0)])
    echo = (True, [], [(1, 1), (0, 0)])
    coders = [Coder(3, (0,), [sides, sides], 2), Coder(2, (1,), [echo, (False, [(1, [((0, 1), ())])], [(0, None), (1, None)])], 2, 1)]
    return Program(Controller((3, 2), 2, [(1, 3)], rows), coders)


class PoseTest(HeldTest):
    def test_results(self):
        for made in (lambda *things: Pose(*things), lambda *things: Run(*things[:3])):
            things = (3, [1], None, "a", {})
            one = made(*things)
            for thing, kept in zip(things, vars(one).values()):
                self.assertIs(thing, kept)
            self.assertTrue(one == made(*things))
            self.assertFalse(one != made(*things))
            for at in range(len(vars(one))):
                other = made(*things[:at], (9,), *things[at + 1:])
                self.assertTrue(one != other)
                self.assertFalse(one == other)
            self.assertFalse(one == 3)
        self.assertEqual(list(vars(Pose(1, 2, 3, 4, 5))), ["tick", "positions", "state", "registers", "memories"])
        self.assertEqual(list(vars(Run(1, 2, 3))), ["start", "liars", "ticks"])
        self.assertFalse(Pose(0, ((0, 1),), 0, (), ()) == Pose(0, [(0, 1)], 0, (), ()))

    def test_first_pose(self):
        world, program = small_world(), small_program()
        for start in (whole(-4, 0), list(whole(-4, 0))):
            pose = first_pose(world, program, start)
            self.assertEqual(pose, Pose(0, whole(-4, 0), 0, ((1, 3),), (0, 1)))
            self.are_tuples(tuple(vars(pose).values()))

    def test_wrong_starts(self):
        world, program = small_world(), small_program()
        big = 10 ** 290
        for thing in NO_SEQUENCES + (whole(0), whole(0, 0, 0), ()):
            self.raises(BadStart, {"mode": 0}, first_pose, world, program, thing)
        for thing in NO_RATIOS:
            self.raises(BadStart, {"mode": 0}, first_pose, world, program, [(0, 1), thing])
        for start, mode in ((whole(5, 0), 0), (whole(-5, 1), 0), (whole(4, 1), 1), (((4 * big + 1, big), (0, 1)), 0), (((0, 1), (-1, big)), 1)):
            self.raises(BadStart, {"mode": mode}, first_pose, world, program, start)
        self.assertEqual(first_pose(world, program, ((4 * big - 1, big), (0, 1))).tick, 0)


class TickTest(HeldTest):
    def test_a_tick_by_hand(self):
        world, program = small_world(), small_program()
        pose = first_pose(world, program, whole(-4, 0))
        self.assertEqual(honest_words(program, pose), (0, 0))
        behind = play_tick(world, program, pose, ((0, 0), (1, 0), ((1, 1), (-1, 2))))
        # x = 2 * -4 + 1/3 + 1, y = 0 - 1/2; the register is 1 + 2/3.
        self.assertEqual(behind, Pose(1, ((-20, 3), (-1, 2)), 1, ((5, 3),), (1, 0)))
        later = play_tick(world, program, behind, [[2, 1], [2, 1], [(0, 1), (1, 2)]])
        self.assertEqual(later, Pose(2, ((20, 1), (0, 1)), 0, ((5, 1),), (1, 0)))
        self.are_tuples(tuple(vars(later).values()))

    def test_the_memories_are_those_of_the_own_replies(self):
        world, program = small_world(), small_program()
        pose = first_pose(world, program, whole(1, 0))
        self.assertEqual(honest_words(program, pose), (1, 0))
        for words in ((0, 0), (1, 1), (2, 1)):
            heard = world.sensors[0].channel.table[0][words[0]]
            behind = play_tick(world, program, pose, (words, (heard[0], words[1]), whole(0, 0)))
            self.assertEqual(behind.memories, (0, 0))
        pose = first_pose(world, program, whole(-1, 0))
        self.assertEqual(play_tick(world, program, pose, ((2, 0), (2, 0), whole(0, 0))).memories, (1, 0))

    def test_pushes_at_their_bound_and_beyond(self):
        world, program = small_world(), small_program()
        pose = first_pose(world, program, whole(0, 0))
        big = 10 ** 290
        for push in ((1, 1), (-1, 1), (big - 1, big)):
            play_tick(world, program, pose, ((1, 0), (1, 0), (push, (1, 2))))
        for pushes in (((big + 1, big), (0, 1)), ((-2, 1), (0, 1)), ((0, 1), (big + 1, 2 * big)), ((0, 1), (-1, 1))):
            self.raises(BadTick, {"what": "pushes"}, play_tick, world, program, pose, ((1, 0), (1, 0), pushes))

    def test_wrong_ticks_in_their_order(self):
        world, program = small_world(), small_program()
        pose = first_pose(world, program, whole(0, 0))

        def bad(what, tick):
            self.raises(BadTick, {"what": what}, play_tick, world, program, pose, tick)
        for thing in NO_SEQUENCES + ((), ((1, 0), (1, 0)), ((1, 0), (1, 0), whole(0, 0), ())):
            bad("tick", thing)
        for thing in NO_SEQUENCES + ((), (1,), (1, 0, 0), (3, 0), (1, 2), (-1, 0)) + tuple((one, 0) for one in NO_WHOLES):
            bad("words", (thing, None, None))
        for thing in NO_SEQUENCES + ((), (1,), (1, 0, 0), (0, 0), (3, 0), (1, 1), (-1, 0)) + tuple((1, one) for one in NO_WHOLES):
            bad("outcomes", ((1, 0), thing, None))
        for thing in NO_SEQUENCES + ((), whole(0), whole(0, 0, 0)) + tuple((one, (0, 1)) for one in NO_RATIOS):
            bad("pushes", ((1, 0), (1, 0), thing))
        late = Pose(1, whole(0, 0), 0, ((1, 3),), (0, 1))
        self.raises(BadTick, {"what": "outcomes"}, play_tick, world, program, late, ((0, 0), (1, 0), whole(0, 0)))

    def test_lists_stay(self):
        world, program = small_world(), small_program()
        tick = [[1, 0], [1, 0], [(1, 1), (0, 1)]]
        pose = Pose(4, [(1, 3), (0, 1)], 0, [(1, 3)], [0, 1])
        behind = play_tick(world, program, pose, tick)
        self.assertEqual((tick, pose.positions), ([[1, 0], [1, 0], [(1, 1), (0, 1)]], [(1, 3), (0, 1)]))
        self.are_tuples(tuple(vars(behind).values()))

    def test_possible_outcomes(self):
        world = small_world()
        for phase in (0, 2, 10 ** 20):
            self.assertEqual(list(possible_outcomes(world, phase, [0, 1])), [(0, 1), (1, 1)])
        self.assertEqual(list(possible_outcomes(world, 3, (0, 1))), [(0, 1)])
        self.assertEqual(list(possible_outcomes(World(plain_plant((2, 1)), ()), 5, ())), [()])
        silent = World(plain_plant((2, 1)), [Sensor((0,), Channel.clean(5).silenced())] * 3)
        self.assertEqual(list(possible_outcomes(silent, 0, (0, 4, 2))), list(itertools.product(range(5), repeat=3)))
        walked = possible_outcomes(silent, 0, (0, 4, 2))
        self.assertEqual([next(walked), next(walked)], [(0, 0, 0), (0, 0, 1)])


class RunTest(HeldTest):
    def setUp(self):
        self.world, self.program = small_world(), small_program()
        ticks = [((0, 0), (1, 0), ((1, 1), (-1, 2))), ((0, 0), (0, 0), whole(0, 0)), ((2, 1), (2, 1), whole(-1, 0))]
        self.run_told = Run(whole(-4, 0), (), tuple(ticks))

    def fault(self, **named):
        told = dict(vars(self.run_told))
        told.update(named)
        return run_fault(self.world, self.program, Run(**told))

    def with_tick(self, at, tick):
        return self.run_told.ticks[:at] + (tick,) + self.run_told.ticks[at + 1:]

    def test_no_fault(self):
        self.assertIsNone(self.fault())
        self.assertIsNone(self.fault(start=list(whole(-4, 0)), liars=[], ticks=as_lists(self.run_told.ticks)))
        self.assertIsNone(self.fault(ticks=()))
        self.assertIsNone(self.fault(liars=(1,)))
        self.assertIsNone(self.fault(liars=(0,)))

    def test_start_and_liars(self):
        for thing in NO_SEQUENCES + (whole(5, 0), whole(0), whole(0, 1)):
            self.assertEqual(self.fault(start=thing, liars=None), (0, "start"))
        for thing in NO_SEQUENCES + ((0, 1), (1, 0), (2,), (-1,), (0, 0), (True,), (None,)):
            self.assertEqual(self.fault(liars=thing, ticks=(None,)), (0, "liars"))

    def test_ticks_in_their_order(self):
        for at in range(3):
            words, outcomes, pushes = self.run_told.ticks[at]
            self.assertEqual(self.fault(ticks=self.with_tick(at, None)), (at, "tick"))
            self.assertEqual(self.fault(ticks=self.with_tick(at, (words, outcomes))), (at, "tick"))
            self.assertEqual(self.fault(ticks=self.with_tick(at, ((words[0], 2), None, None))), (at, "words"))
            self.assertEqual(self.fault(ticks=self.with_tick(at, ((words[0], 1 - words[1]), None, None))), (at, "honest"))
            self.assertEqual(self.fault(ticks=self.with_tick(at, (words, (outcomes[0], 1 - words[1]), None))), (at, "outcomes"))
            self.assertEqual(self.fault(ticks=self.with_tick(at, (words, outcomes, whole(0, 1)))), (at, "pushes"))
        two = self.with_tick(1, None)[:2] + (None,)
        self.assertEqual(self.fault(ticks=two), (1, "tick"))

    def test_liars_may_say_anything(self):
        ticks = self.with_tick(2, ((0, 1), (0, 1), whole(0, 0)))
        self.assertEqual(self.fault(ticks=ticks), (2, "honest"))
        self.assertEqual(self.fault(ticks=ticks, liars=(1,)), (2, "honest"))
        self.assertIsNone(self.fault(ticks=ticks, liars=[0]))

    def test_walk(self):
        poses = walk(self.world, self.program, self.run_told)
        pose = first_pose(self.world, self.program, self.run_told.start)
        due = [pose]
        for tick in self.run_told.ticks:
            pose = play_tick(self.world, self.program, pose, tick)
            due.append(pose)
        self.assertEqual(poses, tuple(due))
        self.assertEqual(walk(self.world, self.program, Run(whole(1, 0), (), ())), (first_pose(self.world, self.program, whole(1, 0)),))

    def test_walks_refuse_what_run_fault_tells(self):
        wrong = [{"start": None}, {"liars": None}, {"ticks": self.with_tick(1, None)}, {"ticks": self.with_tick(2, ((0, 1), None, None))}]
        for named, (tick, what) in zip(wrong, ((0, "start"), (0, "liars"), (1, "tick"), (2, "honest"))):
            told = dict(vars(self.run_told))
            told.update(named)
            for call, rest in ((walk, ()), (beyond, ((1, 100),)), (greatest_sizes, ())):
                self.raises(BadRun, {"tick": tick, "what": what}, call, self.world, self.program, Run(**told), *rest)

    def test_go_on(self):
        poses = walk(self.world, self.program, self.run_told)
        ticks = self.run_told.ticks
        for at in range(4):
            self.assertEqual(go_on(self.world, self.program, poses[at], [], list(ticks[at:])), poses[at:])
        anywhere = Pose(7, whole(1000, -1000), 1, ((9, 7),), (1, 0))
        told = go_on(self.world, self.program, anywhere, (0,), [((2, 0), (2, 0), whole(0, 0))])
        self.assertEqual(told[0], anywhere)
        self.assertEqual(told[1], play_tick(self.world, self.program, anywhere, ((2, 0), (2, 0), whole(0, 0))))
        for thing in NO_SEQUENCES + ((0, 1), (2,)):
            self.raises(BadRun, {"tick": 0, "what": "liars"}, go_on, self.world, self.program, anywhere, thing, [None])
        one = ((2, 0), (2, 0), whole(0, 0))
        self.raises(BadRun, {"tick": 7, "what": "tick"}, go_on, self.world, self.program, anywhere, (0,), [None])
        self.raises(BadRun, {"tick": 8, "what": "words"}, go_on, self.world, self.program, anywhere, (0,), [one, (None, 0, 0)])
        self.raises(BadRun, {"tick": 7, "what": "honest"}, go_on, self.world, self.program, anywhere, (), [((0, 0), 0, 0)])

    def test_beyond_and_greatest_sizes(self):
        sizes = [[abs(Fraction(*one)) for one in pose.positions] for pose in walk(self.world, self.program, self.run_told)]
        self.assertEqual([Fraction(*one) for one in greatest_sizes(self.world, self.program, self.run_told)], [max(row) for row in zip(*sizes)])
        for bound in (Fraction(1, 9), Fraction(1, 2), Fraction(4), Fraction(20, 3), Fraction(20), Fraction(41), Fraction(40)):
            due = [(tick, mode) for tick, row in enumerate(sizes) for mode, size in enumerate(row) if size > bound]
            told = beyond(self.world, self.program, self.run_told, (bound.numerator, bound.denominator))
            self.assertEqual(told, due[0] if due else None)

    def test_the_least_mode_of_the_first_pose(self):
        world = World(plain_plant((1, 1), (3, 1), (3, 1), start=(1, 1)), ())
        run = Run(whole(0, 1, -1), (), [((), (), whole(0, 0, 0))] * 2)
        program = still_program(world)
        self.assertEqual(beyond(world, program, run, (1, 2)), (0, 1))
        self.assertEqual(beyond(world, program, run, (1, 1)), (1, 1))
        self.assertEqual(beyond(world, program, run, (3, 1)), (2, 1))
        self.assertIsNone(beyond(world, program, run, (9, 1)))
        self.assertEqual(greatest_sizes(world, program, run), whole(0, 9, 9))

    def test_worlds_without_sensors(self):
        world = World(Plant([whole(2, 3)], whole(1), whole(1)), ())
        run = Run(whole(1), (), [((), (), whole(1))] * 3)
        self.assertEqual([pose.positions for pose in walk(world, still_program(world), run)], [whole(1), whole(3), whole(10), whole(21)])


class PlayTest(HeldTest):
    def test_a_run_by_hand(self):
        world, program = small_world(), small_program()
        picks = [[[2], [3, 5], [(1, 1), (0, 1)]], ([0], (10 ** 30, 0), whole(0, 0))]
        run = play_run(world, program, list(whole(-4, 0)), [0], picks)
        # Word 2 has one outcome at phase 0; in phase 1 word 0 has one, too.
        self.assertEqual(run, Run(whole(-4, 0), (0,), (((2, 0), (2, 0), whole(1, 0)), ((0, 1), (0, 1), whole(0, 0)))))
        self.are_tuples((run.start, run.liars, run.ticks))
        self.assertIsNone(run_fault(world, program, run))
        self.assertEqual(play_run(world, program, whole(0, 0), (), ()), Run(whole(0, 0), (), ()))

    def test_choices(self):
        world = World(plain_plant((1, 2)), [Sensor((0,), Channel(12, [[(0, 3, 5, 11)]]))])
        program = still_program(world)
        for choice, outcome in ((0, 0), (1, 3), (3, 11), (4, 0), (10 ** 40 + 2, 5)):
            run = play_run(world, program, whole(0), (), [((), (choice,), whole(0))])
            self.assertEqual(run.ticks[0], ((0,), (outcome,), whole(0)))

    def test_errors(self):
        world, program = small_world(), small_program()
        good = ((1,), (0, 0), whole(0, 0))

        def bad(tick, what, *arguments):
            self.raises(BadRun, {"tick": tick, "what": what}, play_run, world, program, *arguments)
        for thing in NO_SEQUENCES + (whole(5, 0), whole(0, 1), whole(0)):
            bad(0, "start", thing, None, [good])
        for thing in NO_SEQUENCES + ((0, 1), (2,), (True,)):
            bad(0, "liars", whole(0, 0), thing, [good])
        for at in range(2):
            for thing in NO_SEQUENCES + ((), (2,), (0, 0), (-1,)) + tuple((one,) for one in NO_WHOLES):
                bad(at, "words", whole(0, 0), (1,), [good] * at + [(thing, (0, 0), None)])
            for thing in NO_SEQUENCES + ((), whole(0), whole(2, 0), whole(0, 1)) + tuple((one, (0, 1)) for one in NO_RATIOS):
                bad(at, "pushes", whole(0, 0), (1,), [good] * at + [((0,), (0, 0), thing)])
        bad(0, "words", whole(0, 0), (), [((0,), (0, 0), whole(0, 0))])

    def test_drawn_runs_have_no_fault(self):
        source = random.Random(89)
        liars = 0
        for _ in range(150):
            world = some_plant_world(source)
            program = some_program(source, world)
            start, lot, picks = some_run(source, world, program, 8)
            liars += len(lot)
            before = as_lists(picks)
            run = play_run(world, program, start, lot, picks)
            self.assertEqual(as_lists(picks), before)
            self.are_tuples((run.start, run.liars, run.ticks))
            self.assertIsNone(run_fault(world, program, run))
            pose = first_pose(world, program, start)
            for (lies, _, _), (words, outcomes, _) in zip(picks, run.ticks):
                honest = honest_words(program, pose)
                for sensor, word in enumerate(words):
                    self.assertEqual(word, lies[lot.index(sensor)] if sensor in lot else honest[sensor])
                self.assertIn(outcomes, list(possible_outcomes(world, pose.tick, words)))
                pose = play_tick(world, program, pose, (words, outcomes, run.ticks[pose.tick][2]))
            self.assertEqual(walk(world, program, run)[-1], pose)
        self.assertGreater(liars, 20)

    def test_phases_behind_several_periods(self):
        world = World(Plant([whole(1, 2, 3)], whole(1), whole(1)), [Sensor((0,), Channel(3, [[(0,)], [(1,)], [(2,)]]))])
        program = still_program(world)
        run = play_run(world, program, whole(1), (), [((), (7,), whole(0))] * 7)
        self.assertEqual([tick[1] for tick in run.ticks], [(0,), (1,), (2,), (0,), (1,), (2,), (0,)])
        self.assertEqual([pose.positions[0][0] for pose in walk(world, program, run)], [1, 1, 2, 6, 6, 12, 36, 36])

    def test_1000_ticks_are_quick(self):
        factor = make_ratio(2 * 10 ** 19 + 3, 10 ** 19)
        world = clean_world(factor, 2, 3, ((0,), (1,)))
        program = some_program(random.Random(5), world, states=3, registers=2)
        picks = [([1], [tick, tick, tick], [(1, 1 + tick % 3)]) for tick in range(1000)]
        begun = time.process_time()
        run = play_run(world, program, whole(0), (1,), picks)
        self.assertIsNone(run_fault(world, program, run))
        self.assertEqual(len(greatest_sizes(world, program, run)), 1)
        self.assertLess(time.process_time() - begun, 5)
