import random
import time

from farheld.channels import Channel
from farheld.errors import BadKeeping, BadRun, HeldError
from farheld.fitkeeping import fit_keeping
from farheld.fitting import still_program
from farheld.forms import make_form
from farheld.keeping import KeepFault, Keeping, keeping_bound, keeping_fault, keepings_fault, leaving_tick
from farheld.plants import Plant
from farheld.programs import Coder, Controller, Program
from farheld.ratios import compare, make_ratio
from farheld.running import Run, greatest_sizes, play_run
from farheld.verdicts import find_bar
from farheld.worlds import Sensor, World
from tests.helpers import NO_RATIOS, NO_SEQUENCES, HeldTest, as_lists, clean_use, clean_world, plain_plant, ring, whole
from tests.plainkeepings import plain_fault
from tests.programs import some_form, some_plant_world, some_program, some_run

ONE = (1, 1)


def const(top, bottom=1):
    return make_form(make_ratio(top, bottom))


def times_register(top, bottom=1, constant=0, register=0):
    return make_form((constant, 1), (register, make_ratio(top, bottom)))


def flat(low, high):
    """Return ends that are constants."""
    return (const(low), const(high))


def line(state=0, ends=((-1, 1),), spans=(), memories=(), phase=0):
    return ((phase, state, tuple(memories)), tuple(spans), tuple(flat(*both) for both in ends))


def half_world(start=(1, 1), factor=(1, 2), push=(1, 1)):
    """Return a world without sensors."""
    return World(Plant([[factor]], [push], [start]), ())


def guided(world, moves, registers=(), looks=(), replies=((0, None),), heeds=(), recall=False, memories=1):
    """Return a program of one state for a world of one sensor, with these moves and one rule."""
    controller = Controller(world.outcomes, world.plant.modes, registers, [(heeds, moves)])
    words = world.sensors[0].channel.words
    return Program(controller, [Coder(words, world.sensors[0].seen, [(recall, looks, replies)], memories)])


class MakeTest(HeldTest):
    def test_attributes(self):
        lines = [line(1, memories=(2, 0)), line(0, ((-3, 2),), memories=(0, 1)), line(0, memories=(0, 0)), line(0, phase=1, memories=())]
        keeping = Keeping([1, 3], [as_lists(one) for one in lines])
        self.assertEqual(keeping.lot, (1, 3))
        self.assertEqual(keeping.lines, (lines[2], lines[1], lines[0], lines[3]))
        self.are_tuples((keeping.lot, keeping.lines))
        self.assertEqual(Keeping((), ()).lines, ())
        self.assertEqual(Keeping((0, 1, 2, 3), [line()]).lot, (0, 1, 2, 3))

    def test_lists_stay_and_are_not_kept(self):
        lot, lines = [0], [as_lists(line(spans=(((0, 1), (1, 1)),)))]
        kept = as_lists(lines)
        keeping = Keeping(lot, lines)
        self.assertEqual((lot, lines), ([0], kept))
        due = keeping.lines
        lines[0][1].append(3)
        lines.clear()
        lot.clear()
        self.assertEqual((keeping.lot, keeping.lines), ((0,), due))

    def test_equality(self):
        one, other = line(0), line(1)
        keeping = Keeping((0,), [one, other])
        self.assertTrue(keeping == Keeping([0], [other, one]))
        self.assertFalse(keeping != Keeping([0], [other, one]))
        for unlike in (Keeping((1,), [one, other]), Keeping((0,), [one]), Keeping((0,), [one, line(1, ((-1, 2),))]), None, ((0,), (one, other))):
            self.assertFalse(keeping == unlike)
            self.assertTrue(keeping != unlike)
        fault = KeepFault("open", (0, 0, ()))
        self.assertTrue(fault == KeepFault("open", (0, 0, ())))
        for unlike in (KeepFault("lacking", (0, 0, ())), KeepFault("open", (0, 1, ())), ("open", (0, 0, ())), None):
            self.assertTrue(fault != unlike)
            self.assertFalse(fault == unlike)

    def refuses(self, what, index, lot, lines):
        self.raises(BadKeeping, {"what": what, "index": index}, Keeping, lot, lines)

    def test_wrong_lots_and_lines(self):
        for lot in NO_SEQUENCES + ((4,), (-1,), (1, 0), (0, 0), (True,), (None,), ("0",), (0, 1, 2, 3, 4)):
            self.refuses("lot", 0, lot, None)
        for lines in NO_SEQUENCES:
            self.refuses("lines", 0, (), lines)
        self.refuses("lines", 0, (), [None] * 2001)
        many = [line(state) for state in range(2000)]
        self.assertEqual(len(Keeping((), many[::-1]).lines), 2000)
        self.refuses("lines", 0, (), many + [line(2000)])

    def test_wrong_parts_of_a_line(self):
        good = line(0, spans=(((0, 1), ONE),), memories=(0,))
        key, spans, ends = good
        for thing in NO_SEQUENCES + ((), (key, spans), (key, spans, ends, ())):
            self.refuses("line", 0, (), [thing])
        for thing in NO_SEQUENCES + ((), (0, 0), (0, 0, (), 0), (True, 0, (0,)), (0, False, (0,)), (0, 0, (True,)), (-1, 0, (0,)), (0, -1, (0,)),
                                     (0, 0, (-1,)), (0, 0, 0), (0, 0, None), (0, 0, "0"), (0, 0, (None,)), ("0", 0, (0,)), (None, 0, (0,))):
            self.refuses("key", 0, (), [(thing, spans, ends)])
        for thing in NO_SEQUENCES + ((None,), ((0, 1),), (((0, 1),),), ((ONE, (0, 1)),), (((0, 1), ONE, ONE),), "ab"):
            self.refuses("spans", 0, (), [(key, thing, ends)])
        for ratio in NO_RATIOS:
            self.refuses("spans", 0, (), [(key, ((ratio, (9, 1)),), ends)])
            self.refuses("spans", 0, (), [(key, (((-9, 1), ratio),), ends)])
        form = const(1)
        for thing in NO_SEQUENCES + ((None,), (form,), ((form,),), ((form, form, form),), ((form, None),), ((((0, 1), ((1, ONE),)), form),),
                                     ((form, ((0, 1), ((0, (0, 1)),))),), (((1, ()), form),), ((form, (ONE, ((True, ONE),))),)):
            self.refuses("ends", 0, (), [(key, spans, thing)])
        # One register is there, so forms over it may stand.
        Keeping((), [(key, spans, ((form, times_register(1)),))])
        self.refuses("ends", 0, (), [(key, (), ((form, times_register(1)),))])

    def test_lines_after_the_first_one(self):
        spans, ends = (((0, 1), ONE),), (flat(0, 1),)
        first = ((0, 0, (0,)), spans, ends)
        for what, other in (
            ("line", None), ("key", ([0, 0, [0]], None, None)), ("key", ((0, 0, (0,)), spans, ends)), ("spans", ((0, 1, ()), (), ends)), ("spans", ((0, 1, ()), spans * 2, None)),
            ("ends", ((0, 1, ()), spans, ())), ("ends", ((0, 1, ()), spans, ends * 2)),
        ):
            self.refuses(what, 1, (), [first, other])
            self.refuses(what, 2, (), (first, ((0, 2, ()), spans, ends), other, None))
        # A line's own words come before those of the next line.
        self.refuses("ends", 1, (), [first, ((0, 1, ()), spans, ()), None])
        self.refuses("spans", 1, (), [first, ((0, 1, ()), (), ())])
        self.assertEqual(len(Keeping((), [first, ((0, 0, (0, 0)), [[(-1, 1), (-1, 1)]], ends)]).lines), 2)


class FaultTest(HeldTest):
    def judge(self, world, program, lot, lines, what=None, key=None):
        keeping = Keeping(lot, lines)
        told = keeping_fault(world, program, keeping)
        due = None if what is None else KeepFault(what, key)
        self.assertEqual(told, due, told and vars(told))
        self.assertEqual(plain_fault(world, program, keeping), due)
        self.assertEqual(keeping_fault(world, program, Keeping(lot, lines[::-1])), due)

    def test_a_plant_that_falls_by_itself(self):
        world = half_world((2, 1))
        program = still_program(world)
        for end, what in ((2, None), (3, None), (1, "start")):
            self.judge(world, program, (), [line(ends=((-end, end),))], what, (0, 0, ()))
        # From 3/2 up to it, 1/2 * x + 1 may pass an end.
        self.judge(half_world((3, 2)), program, (), [((0, 0, ()), (), ((const(-3, 2), const(3, 2)),))], "open", (0, 0, ()))
        self.judge(world, program, (), [line(ends=((-2, 3),))])
        self.judge(world, program, (), [line(ends=((-3, 2),))])
        self.judge(world, program, (), [line(ends=((-5, 2),))])
        self.judge(half_world((2, 1), push=(3, 2)), program, (), [line(ends=((-3, 2),))], "open", (0, 0, ()))
        self.judge(half_world((2, 1), push=(3, 2)), program, (), [line(ends=((-2, 3),))], "open", (0, 0, ()))
        self.judge(half_world((2, 1), push=(3, 2)), program, (), [line(ends=((-3, 3),))])

    def test_factors_of_either_sign(self):
        for factor, ends, what in (((-1, 2), (-2, 2), None), ((-1, 2), (-3, 3), None), ((-1, 2), (-4, 3), None), ((-1, 2), (-5, 3), "open"), ((-1, 2), (-3, 5), "open"),
                                   ((1, 2), (-5, 2), None), ((-1, 1), (-9, 9), "open"), ((-1, 100), (-2, 2), None)):
            world = half_world((2, 1), factor)
            self.judge(world, still_program(world), (), [line(ends=(ends,))], what, None if what is None else (0, 0, ()))

    def test_words_in_their_order(self):
        world = clean_world((1, 2), 2, 2, [(0,), (1,)])
        program, good = still_program(world), line(memories=(0, 0), ends=((-2, 2),))
        self.judge(world, program, (), [good])
        self.judge(world, program, (0,), [good])
        other = still_program(clean_world((1, 2), 3, 2))
        self.judge(world, other, (3,), [line(7)], "program")
        for lot in ((2,), (3,), (0, 2), (0, 1), (0, 1, 2, 3)):
            self.judge(world, program, lot, [line(7)], "lot")
        self.judge(clean_world((1, 2), 2, 2), program, (0,), [good], "lot")
        wrong = [
            line(phase=1, memories=(0, 0)), line(1, memories=(0, 0)), line(memories=(0,)), line(memories=(0, 0, 0)), line(memories=()), line(memories=(0, 1)),
            line(memories=(1, 0)), line(spans=(((0, 1), ONE),), memories=(0, 0)), line(ends=(), memories=(0, 0)), line(ends=((0, 1), (0, 1)), memories=(0, 0)),
        ]
        for one in wrong:
            self.judge(world, program, (), [one], "line", one[0])
        # The first wrong line comes ahead of a start that lacks.
        self.judge(world, program, (), [line(9, memories=(0, 0)), line(8, memories=(0, 0))], "line", (0, 8, (0, 0)))
        self.judge(world, program, (), [], "start", (0, 0, (0, 0)))

    def test_memories_in_the_lot_are_written_0(self):
        world = clean_world((1, 2), 2, 2, [(0,)])
        rule = (True, (), [(0, 1), (1, 0)])
        coders = [Coder(2, (0,), [rule], 2, 1), Coder(2, (0,), [rule], 2, 1)]
        program = Program(Controller((2, 2), 1, (), [((), [(0, (), ())])]), coders)
        ends = ((-2, 2),)
        self.judge(world, program, (0,), [line(memories=(0, 0), ends=ends), line(memories=(0, 1), ends=ends)])
        self.judge(world, program, (0,), [line(memories=(0, 1), ends=ends)], "lacking", (0, 0, (0, 1)))
        self.judge(world, program, (0,), [line(memories=(1, 1), ends=ends)], "line", (0, 0, (1, 1)))
        self.judge(world, program, (0,), [line(memories=(0, 0), ends=ends)], "start", (0, 0, (0, 1)))
        self.judge(world, program, (), [line(memories=(0, 0), ends=ends), line(memories=(1, 1), ends=ends)])
        self.judge(world, program, (), [line(memories=(1, 0), ends=ends), line(memories=(1, 1), ends=ends)], "lacking", (0, 0, (1, 0)))

    def test_starts(self):
        world = half_world((2, 1), (1, 8))
        rows = [((), [(0, (), ())])]
        program = Program(Controller((), 1, [(1, 2)], rows), ())
        key = (0, 0, ())
        for span, ends, what in (
            (((0, 1), ONE), flat(-2, 2), None), (((1, 2), (1, 2)), flat(-2, 2), None), (((3, 4), ONE), flat(-2, 2), "start"), (((0, 1), (1, 4)), flat(-2, 2), "start"),
            (((0, 1), ONE), (const(-1), const(2)), "start"), (((0, 1), ONE), (const(-2), const(1)), "start"),
            (((1, 2), ONE), (times_register(-4), times_register(4)), None), (((1, 2), ONE), (times_register(-4), times_register(3)), "start"),
        ):
            self.judge(world, program, (), [(key, (span,), (ends,))], what, None if what is None else key)

    def test_lacking_comes_ahead_of_open_in_a_line_but_lines_ascend(self):
        world = clean_world((1, 2), 2, 1)
        rows = [((0,), [(1, (), ()), (2, (), ())]), ((), [(1, (), ())]), ((), [(1, (), ())])]
        program = Program(Controller((2,), 1, (), rows), [Coder(2, (0,), [(False, [(0, [const(0)])], [(0, None), (1, None)])] * 3)])
        wide, narrow = ((-2, 2),), ((-1, 1),)
        lines = [line(0, wide, memories=(0,)), line(1, wide, memories=(0,)), line(2, wide, memories=(0,))]
        self.judge(world, program, (), lines)
        self.judge(world, program, (), [lines[0], line(1, narrow, memories=(0,))], "lacking", (0, 0, (0,)))
        self.judge(world, program, (), [lines[0], line(1, narrow, memories=(0,)), lines[2]], "open", (0, 0, (0,)))
        self.judge(world, program, (), [lines[0], lines[1], ((0, 2, (0,)), (), ((const(-1), const(2)),))])
        self.judge(world, program, (), [lines[0], lines[1], ((0, 2, (0,)), (), ((const(-1), const(1)),))], "open", (0, 0, (0,)))

    def test_lots_that_may_lie_send_any_word(self):
        world = World(plain_plant((1, 2)), [Sensor((0,), Channel(3, [((0,), (1, 2))]))], [(0,)])
        rows = [((0,), [(0, (), ()), (0, (), ()), (0, (), [(0, const(5))])])]
        program = Program(Controller((3,), 1, (), rows), [Coder(2, (0,), [(False, (), [(0, None)])])])
        self.judge(world, program, (), [line(memories=(0,), ends=((-2, 2),))])
        self.judge(world, program, (0,), [line(memories=(0,), ends=((-2, 2),))], "open", (0, 0, (0,)))
        self.judge(world, program, (0,), [line(memories=(0,), ends=((-2, 12),))])
        self.judge(world, program, (0,), [line(memories=(0,), ends=((-2, 11),))], "open", (0, 0, (0,)))

    def test_registers_that_change_and_stay(self):
        world = half_world((0, 1), (1, 2))
        change = [(0, make_form((0, 1), (0, (1, 2)), (1, (1, 2))))]
        program = Program(Controller((), 1, whole(1, 1), [((), [(0, change, ())])]), ())
        key, wide = (0, 0, ()), (((0, 1), ONE), ((0, 1), ONE))
        self.judge(world, program, (), [(key, wide, (flat(-2, 2),))])
        self.judge(world, program, (), [(key, (((1, 2), ONE), ((0, 1), ONE)), (flat(-2, 2),))], "open", key)
        self.judge(world, program, (), [(key, (((-1, 1), ONE), ((-1, 1), ONE)), (flat(-2, 2),))])
        self.judge(world, program, (), [(key, (((-1, 1), ONE), ((-2, 1), ONE)), (flat(-2, 2),))], "open", key)
        # Ends over a register that stays are kept as forms, over one that changes by its next form.
        kept = make_form((2, 1), (1, (1, 1)))
        self.judge(world, program, (), [(key, wide, ((const(-2), kept),))])
        moved = make_form((2, 1), (0, (1, 1)))
        self.judge(world, program, (), [(key, wide, ((const(-2), moved),))])
        self.judge(world, program, (), [(key, wide, ((const(-2), make_form((2, 1), (0, (-1, 1)))),))], "open", key)

    def test_steps_over_registers(self):
        world = half_world((0, 1), (1, 1))
        program = Program(Controller((), 1, whole(3), [((), [(0, (), [(0, times_register(-1))])])]), ())
        self.judge(world, program, (), [((0, 0, ()), (((3, 1), (3, 1)),), (flat(0, 0),))], "open", (0, 0, ()))
        # With a look the mode is taken back by its register where it is at or above it.
        watched = World(plain_plant((1, 1)), [Sensor((0,), Channel.clean(3))])
        moves = [(0, (), [(0, times_register(1))]), (0, (), ()), (0, (), [(0, times_register(-1))])]
        looks, replies = [(0, [times_register(-1), times_register(1)])], [(0, None), (1, None), (2, None)]
        program = guided(watched, moves, whole(1), looks, replies, (0,))
        key, spans = (0, 0, (0,)), ((ONE, (5, 1)),)
        self.judge(watched, program, (), [(key, spans, ((times_register(-1, constant=-1), times_register(1, constant=1)),))])
        self.judge(watched, program, (), [(key, spans, ((times_register(-1, constant=-1), times_register(1)),))], "open", key)
        self.judge(watched, program, (), [(key, (((1, 2), (5, 1)),), ((times_register(-1, constant=-1), times_register(1, constant=1)),))], "open", key)

    def test_thresholds_at_the_ends_of_a_line(self):
        # Place 2 is asked for if the mode may be at the upper threshold; its step would be too long.
        world = clean_world((1, 2), 2, 1)
        moves = [(0, (), ()), (0, (), [(0, const(9))])]
        good = line(memories=(0,), ends=((-2, 2),))
        for thresholds, replies, what in (
            ([const(2)], [0, 1], "open"), ([const(3)], [0, 1], None), ([const(-2)], [1, 0], None), ([const(-3)], [1, 0], None), ([const(-1)], [1, 0], "open"),
            ([const(1), const(1)], [0, 1, 0], "open"), ([const(1), const(2)], [0, 1, 0], "open"), ([const(2), const(2)], [0, 1, 0], "open"), ([const(2), const(2)], [0, 0, 1], "open"),
            ([const(2), const(1)], [0, 1, 0], "open"), ([const(1), const(0), const(1)], [0, 0, 0, 1], "open"),
        ):
            program = guided(world, moves, (), [(0, thresholds)], [(word, None) for word in replies], (0,))
            self.judge(world, program, (), [good], what, None if what is None else (0, 0, (0,)))

    def test_a_threshold_in_the_list_is_not_reached(self):
        # Two looks at the same threshold: below it in the first, at it in the second is not possible.
        world = clean_world((1, 2), 2, 1)
        moves = [(0, (), ()), (0, (), [(0, const(9))])]
        good = line(memories=(0,), ends=((-2, 2),))
        for other, words, what in (
            (const(1), (0, 1, 0, 0), None), (const(1), (0, 0, 1, 0), None), (const(0), (0, 1, 0, 0), "open"), (const(2), (0, 0, 1, 0), "open"), (const(0), (0, 0, 1, 0), None),
        ):
            program = guided(world, moves, (), [(0, [const(1)]), (0, [other])], [(word, None) for word in words], (0,))
            self.judge(world, program, (), [good], what, None if what is None else (0, 0, (0,)))

    def test_drawn_keepings(self):
        source = random.Random(1)
        told = {}
        for _ in range(250):
            world = some_plant_world(source, sensors=source.randint(0, 2), words=2, outcomes=2)
            if source.random() < 0.7:
                world = world.with_plant(Plant([[make_ratio(source.choice((-1, 1)), 3) for _ in row] for row in world.plant.factors], world.plant.pushes, world.plant.starts))
            program, lot = some_program(source, world), source.choice(world.lots)
            lot = tuple(sorted(source.sample(lot, source.randint(0, len(lot)))))
            lines = {one[0]: one for one in self.all_lines(source, world, program, lot)}
            keeping = Keeping(lot, list(lines.values()))
            fault = keeping_fault(world, program, keeping)
            self.assertEqual(fault, plain_fault(world, program, keeping))
            what = None if fault is None else fault.what
            told[what] = told.get(what, 0) + 1
            if fault is None:
                self.check_runs(source, world, program, keeping)
        self.assertGreater(min(told.get(what, 0) for what in (None, "open", "lacking", "start")), 3)

    def all_lines(self, source, world, program, lot):
        """Return lines for all keys, or all but one, with ends that are often wide enough."""
        registers, end = len(program.controller.registers), source.choice((9, 20, 90))
        keys = [()]
        for at, coder in enumerate(program.coders):
            keys = [key + (memory,) for key in keys for memory in range(1 if at in lot else coder.memories)]
        told = []
        for phase in range(world.period):
            for state in range(len(program)):
                for memories in keys:
                    spans = ((make_ratio(-end, 1), make_ratio(end, 1)),) * registers
                    ends = []
                    for _ in range(world.plant.modes):
                        forms = (some_form(source, registers, 1), some_form(source, registers, 1)) if source.random() < 0.02 else (const(-200 * end), const(200 * end))
                        ends.append(forms)
                    told.append(((phase, state, memories), spans, tuple(ends)))
        if source.random() < 0.2:
            told.pop(source.randrange(len(told)))
        return told

    def check_runs(self, source, world, program, keeping):
        bounds = keeping_bound(keeping)
        for _ in range(3):
            start, _, picks = some_run(source, world, program, 6)
            liars = tuple(sorted(source.sample(keeping.lot, source.randint(0, len(keeping.lot)))))
            picks = [([source.randrange(world.sensors[liar].channel.words) for liar in liars], choices, pushes) for _, choices, pushes in picks]
            run = play_run(world, program, start, liars, picks)
            self.assertIsNone(leaving_tick(world, program, keeping, run))
            for size, bound in zip(greatest_sizes(world, program, run), bounds):
                self.assertLessEqual(compare(size, bound), 0)


class BoundTest(HeldTest):
    def test_bounds(self):
        spans = (((-1, 1), (3, 1)),)
        ends = ((times_register(-2, constant=1), times_register(1)), (const(-9), times_register(1, 2, -6)))
        keeping = Keeping((), [((0, 0, ()), spans, ends), ((0, 1, ()), (((0, 1), ONE),), ends)])
        self.assertEqual(keeping_bound(keeping), whole(5, 9))
        self.assertEqual(keeping_bound(Keeping((), [((0, 1, ()), (((0, 1), ONE),), ends)])), whole(1, 9))
        self.assertEqual(keeping_bound(Keeping((), [((0, 1, ()), (((-4, 1), ONE),), ends)])), whole(9, 9))
        self.assertEqual(keeping_bound(Keeping((), [((0, 1, ()), (((-8, 1), ONE),), ends)])), whole(17, 10))
        self.assertEqual(keeping_bound(Keeping((0,), ())), ())
        self.assertEqual(keeping_bound(Keeping((), [((0, 1, ()), (), ())])), ())

    def test_faults_of_several(self):
        world = clean_world((1, 2), 2, 2, [(0,), (1,)])
        program, good = still_program(world), [line(memories=(0, 0), ends=((-2, 2),))]
        first, second = Keeping((0,), good), Keeping((1,), good)
        self.assertIsNone(keepings_fault(world, program, [first, second]))
        self.assertIsNone(keepings_fault(world, program, (first, second, None)))
        lot = KeepFault("lot", None)
        for things, due in (
            ((), (0, lot)), ([first], (1, lot)), ((second, first), (0, lot)), ((first, first), (1, lot)), ((Keeping((), good), second), (0, lot)),
            ((first, Keeping((1,), ())), (1, KeepFault("start", (0, 0, (0, 0))))), ((Keeping((0,), ()), first), (0, KeepFault("start", (0, 0, (0, 0))))),
        ):
            self.assertEqual(keepings_fault(world, program, things), due)
        other = still_program(clean_world((1, 2), 3, 2))
        self.assertEqual(keepings_fault(world, other, (first, second)), (0, KeepFault("program", None)))
        self.assertEqual(keepings_fault(world, other, (second,)), (0, lot))

    def test_barred_worlds_have_no_keepings(self):
        source = random.Random(2)
        barred = 0
        for _ in range(60):
            world = some_plant_world(source, modes=1, sensors=source.randint(0, 2), words=2, outcomes=2)
            if find_bar(world) is None:
                continue
            barred += 1
            program = some_program(source, world)
            told = []
            for lot in world.lots:
                try:
                    told.append(fit_keeping(world, program, lot))
                except HeldError:
                    told.append(Keeping(lot, FaultTest().all_lines(source, world, program, lot)))
            self.assertIsNotNone(keepings_fault(world, program, told))
        self.assertGreater(barred, 20)


class LeavingTest(HeldTest):
    def test_the_first_pose_that_no_line_holds(self):
        world = half_world((2, 1), (1, 2))
        program = still_program(world)
        run = Run(((2, 1),), (), (((), (), (ONE,)), ((), (), ((1, 2),)), ((), (), ((-1, 1),))))
        for ends, tick in (((-2, 2), None), ((-1, 2), None), ((0, 2), 3), ((1, 2), 3), ((2, 2), 2), ((-9, 1), 0), ((3, 9), 0)):
            self.assertEqual(leaving_tick(world, program, Keeping((), [line(ends=(ends,))]), run), tick)
        self.assertEqual(leaving_tick(world, program, Keeping((), ()), run), 0)
        # Positions are 2, 2, 3/2, -1/4: both limits count as held.
        exact = Keeping((), [((0, 0, ()), (), ((const(-1, 4), const(2)),))])
        self.assertIsNone(leaving_tick(world, program, exact, run))
        self.assertEqual(leaving_tick(world, program, Keeping((), [((0, 0, ()), (), ((const(-1, 5), const(2)),))]), run), 3)

    def test_lines_of_other_numbers_hold_nothing(self):
        world = half_world((2, 1))
        program = still_program(world)
        run = Run(whole(0), (), ())
        for one in (line(spans=(((0, 1), ONE),)), line(ends=()), line(ends=((-2, 2), (-2, 2))), line(memories=(0,)), line(1), line(phase=1)):
            self.assertEqual(leaving_tick(world, program, Keeping((), [one]), run), 0)
        self.assertIsNone(leaving_tick(world, program, Keeping((2,), [line()]), run))

    def test_keys_and_registers(self):
        world = World(Plant([[(1, 2), (1, 1)]], whole(1), whole(1)), [Sensor((0,), Channel(2, [clean_use(2), ring(2)]))], [(0,)])
        change = [(0, times_register(1, constant=1))]
        rows = [((), [(1, change, ())]), ((), [(0, (), ())])]
        program = Program(Controller((2,), 1, whole(0), rows), [Coder(2, (0,), [(True, (), [(0, 1), (1, 0)])] * 2, 2)])
        run = play_run(world, program, whole(0), (), [((), (0,), whole(0))] * 3)
        # The states, registers and memories are 0, 0, 0; then 1, 1, 1; then 0, 1, 0.
        wide = (flat(-9, 9),)
        for lot, lines, tick in (
            ((), [((0, 0, (0,)), (((0, 1), (9, 1)),), wide), ((1, 1, (1,)), (((1, 1), (9, 1)),), wide)], None),
            ((), [((0, 0, (0,)), (((0, 1), (1, 1)),), wide), ((1, 1, (1,)), (((1, 1), (1, 1)),), wide)], 3),
            ((), [((0, 0, (0,)), (((0, 1), (9, 1)),), wide), ((1, 1, (0,)), (((1, 1), (9, 1)),), wide)], 1),
            ((0,), [((0, 0, (0,)), (((0, 1), (9, 1)),), wide), ((1, 1, (0,)), (((1, 1), (9, 1)),), wide)], None),
            ((), [((0, 0, (0,)), (((0, 1), (0, 1)),), wide), ((1, 1, (1,)), (((1, 1), (9, 1)),), wide)], 2),
        ):
            self.assertEqual(leaving_tick(world, program, Keeping(lot, lines), run), tick)

    def test_wrong_runs(self):
        world = half_world((2, 1))
        program = still_program(world)
        keeping = Keeping((), [line(ends=((-2, 2),))])
        for run, tick, what in ((Run(whole(3), (), ()), 0, "start"), (Run(whole(0), (0,), ()), 0, "liars"), (Run(whole(0), (), (((), (), whole(0)), 3)), 1, "tick")):
            self.raises(BadRun, {"tick": tick, "what": what}, leaving_tick, world, program, keeping, run)


class TimeTest(HeldTest):
    def test_many_lines_and_many_ways_in_time(self):
        begun = time.time()
        world, many, registers = World(Plant([[(1, 2)]] * 3, whole(1, 1, 1), whole(2, 2, 2)), ()), 2000, 24
        rows = []
        for state in range(many):
            changes = [(at, make_form((0, 1), (at, (1, 2)), ((at + 1) % registers, (1, 2)))) for at in range(registers)]
            steps = [(mode, make_form((0, 1), (mode, (1, 4)), (mode + 3, (-1, 4)))) for mode in range(3)]
            rows.append(((), [((state + 1) % many, changes, steps)]))
        program = Program(Controller((), 3, [(0, 1)] * registers, rows), ())
        lines = [line(state, ((-4, 4),) * 3, (((-1, 1), ONE),) * registers) for state in range(many)]
        self.assertIsNone(keeping_fault(world, program, Keeping((), lines)))
        liars = World(plain_plant((1, 2)), [Sensor((0,), Channel.clean(12))] * 3, [(0, 1, 2)])
        moves = [[((state + at) % 28, (), [(0, make_form(make_ratio(at, 3000)))]) for at in range(1728)] for state in range(28)]
        coder = Coder(12, (0,), [(False, (), [(0, None)])] * 28)
        program = Program(Controller((12,) * 3, 1, (), [((0, 1, 2), row) for row in moves]), [coder] * 3)
        lines = [line(state, ((-4, 4),), memories=(0, 0, 0)) for state in range(28)]
        self.assertIsNone(keeping_fault(liars, program, Keeping((0, 1, 2), lines)))
        self.assertLess(time.time() - begun, 5)
