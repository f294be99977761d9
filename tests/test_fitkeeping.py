import random
import time

from farheld.blocks import block_ticks, list_checkers
from farheld.channels import Channel
from farheld.compiling import compile_splits, compile_world
from farheld.errors import BadKeeping, NoFit, NoGroup, NotClosed, NotDone, TooLarge
from farheld.fitkeeping import Table, fit_keeping
from farheld.fitting import still_program
from farheld.forms import make_form
from farheld.keeping import Keeping, keeping_bound, keeping_fault, keepings_fault, leaving_tick
from farheld.plants import Plant
from farheld.programs import Coder, Controller, Program
from farheld.ratios import compare, make_ratio, negative
from farheld.running import greatest_sizes
from farheld.splits import Split
from farheld.worlds import Sensor, World
from tests.compiled import some_kept_world, wild_run
from tests.helpers import NO_SEQUENCES, HeldTest, as_lists, clean_world, plain_plant, whole
from tests.plainkeepings import plain_fit
from tests.programs import some_form, some_plant_world, some_program
from tests.test_keeping import ONE, const, flat, half_world, line, times_register


def anchors_of(compiled, place):
    """Return the lines at the begins of the blocks of the lots up to a place, as [14.9] tells them."""
    world, told = compiled.world, []
    growing = world.plant.growing
    for at in range(place + 1):
        ends = []
        for mode, half in enumerate(compiled.halves[at]):
            if mode in growing:
                register = growing.index(mode)
                ends.append((times_register(-1, register=register), times_register(1, register=register)))
            else:
                ends.append((make_form(negative(half)), make_form(half)))
        spans = tuple(((0, 1), compiled.halves[at][mode]) for mode in growing)
        told.append(((0, compiled.block_state(at), (0,) * len(world.sensors)), spans, tuple(ends)))
    return told


def chain(many):
    """Return a world without sensors and a program that goes through so many states, and stays in the last one."""
    world = half_world((0, 1))
    rows = [((), [(min(state + 1, many - 1), (), ())]) for state in range(many)]
    return world, Program(Controller((), 1, (), rows), ())


class FitTest(HeldTest):
    def check_fit(self, world, program, lot=(), anchors=()):
        told = fit_keeping(world, program, lot, anchors)
        self.assertEqual(told.lines, plain_fit(world, program, lot, list(anchors)))
        self.assertEqual(told.lot, tuple(lot))
        self.assertEqual(fit_keeping(world, program, list(lot), as_lists(list(anchors)[::-1])), told)
        self.are_tuples(told.lines)
        return told

    def test_a_plant_that_falls_by_itself(self):
        world = half_world((2, 1))
        told = self.check_fit(world, still_program(world))
        self.assertEqual(told.lines, (line(ends=((-2, 2),)),))
        self.assertIsNone(keeping_fault(world, still_program(world), told))
        # From less than its limit it is widened again and again.
        small = half_world((1, 1))
        self.raises(NotDone, {"most": 400}, fit_keeping, small, still_program(small), ())
        self.raises(NotDone, {"most": 400}, fit_keeping, half_world((2, 1), (1, 1)), still_program(world), (), ())

    def test_exactly_400_lines_and_one_more(self):
        # The start, 398 images and an anchor in which they end.
        world, program = chain(400)
        told = fit_keeping(world, program, (), [line(399, ((-2, 2),))])
        self.assertEqual(len(told.lines), 400)
        self.assertEqual(told.lines[2][2], (((make_form((-3, 2)), make_form((3, 2)))),))
        self.assertIsNone(keeping_fault(world, program, told))
        world, program = chain(401)
        self.raises(NotDone, {"most": 400}, fit_keeping, world, program, (), [line(400, ((-2, 2),))])

    def test_400_anchors_and_one_more(self):
        world, program = chain(401)
        anchors = [line(state, ((-2, 2),)) for state in range(401)]
        self.assertEqual(fit_keeping(*chain(400), (), anchors[:400]).lines, tuple(anchors[:400]))
        self.raises(NotDone, {"most": 400}, fit_keeping, world, program, (), anchors)
        # The start line waits behind the anchors.
        self.assertEqual(len(fit_keeping(*chain(400), (), anchors[1:400]).lines), 400)
        self.raises(NotDone, {"most": 400}, fit_keeping, world, program, (), anchors[1:])

    def test_the_first_image_and_what_is_widened(self):
        # The plant goes from state 0 to 1 and stays: the second line is widened until it takes itself in.
        rows = [((), [(1, (), [(0, const(1))])]), ((), [(1, (), [(0, const(-1, 2))])])]
        world = World(Plant([[(1, 2)]], [ONE], [(2, 1)]), ())
        program = Program(Controller((), 1, (), rows), ())
        anchor = ((0, 1, ()), (), ((const(-3), const(3)),))
        told = self.check_fit(world, program, (), [anchor])
        self.assertEqual(told.lines, (line(ends=((-2, 2),)), anchor))
        self.assertIsNone(keeping_fault(world, program, told))
        self.raises(NotClosed, {"key": (0, 1, ())}, fit_keeping, world, program, (), [((0, 1, ()), (), ((const(-2), const(3)),))])
        self.raises(NotClosed, {"key": (0, 1, ())}, fit_keeping, world, program, (), [((0, 1, ()), (), ((const(-3), const(2)),))])

    def test_images_by_forms_and_by_constants(self):
        world = half_world((1, 1), (1, 2))
        ends = ((times_register(-1), times_register(1)),)
        anchor = ((0, 0, ()), (((1, 1), (4, 1)),), ends)
        for change, low, high, span in (
            ((), make_form((-1, 1), (0, (-1, 2))), make_form((1, 1), (0, (1, 2))), ((1, 1), (4, 1))),
            ([(0, times_register(1, 2))], const(-3), const(3), ((1, 2), (2, 1))),
            ([(0, times_register(1))], const(-3), const(3), ((1, 1), (4, 1))),
            ([(0, const(7))], const(-3), const(3), ((7, 1), (7, 1))),
        ):
            # State 1 sends the mode to state 2, which takes in whatever comes.
            rows = [((), [(1, change, ())]), ((), [(2, [(0, const(0))], ())]), ((), [(2, (), ())])]
            program = Program(Controller((), 1, whole(1), rows), ())
            wide = ((0, 2, ()), (((0, 1), (0, 1)),), (flat(-9, 9),))
            told = self.check_fit(world, program, (), [anchor, wide])
            self.assertEqual(told.lines[1], ((0, 1, ()), (span,), ((low, high),)))
            self.assertIsNone(keeping_fault(world, program, told))

    def test_the_earliest_of_equal_forms(self):
        # Over registers from 0 the thresholds -h and 0 have the same greatest value; the one looked at first stays.
        world = World(plain_plant((1, 1)), [Sensor((0,), Channel.clean(2))])
        ends = ((times_register(-2), times_register(2)),)
        anchor = ((0, 0, (0,)), (((0, 1), (4, 1)),), ends)
        for looks, best in (([times_register(-1)], times_register(-1, constant=1)), ([const(0)], const(1))):
            other = const(0) if looks[0][1] else times_register(-1)
            coder = Coder(2, (0,), [(False, [(0, looks), (0, [other])], [(0, None), (1, None), (1, None), (1, None)]), (False, (), [(0, None)]), (False, (), [(0, None)])])
            rows = [((0,), [(1, (), ()), (2, (), ())]), ((), [(1, [(0, const(0))], ())]), ((), [(2, (), ())])]
            program = Program(Controller((2,), 1, whole(0), rows), [coder])
            table = Table(world, program, Keeping((), [anchor]))
            table.take_first()
            self.assertEqual(table.lines[(0, 1, (0,))][2][0][1], best)
            self.assertEqual(tuple(table.lines[key] for key in sorted(table.lines)), plain_fit(world, program, (), [anchor], 1, True))

    def test_ways_go_by_places_then_by_outcomes(self):
        # Each outcome and each place leads to a state of its own; lines come in the order of the ways.
        world = World(Plant([[(1, 4)]], [ONE], [(2, 1)]), [Sensor((0,), Channel(2, [((0, 1), (0, 1))]))] * 2, [(1,)])
        moves = [(1 + at, (), ()) for at in range(4)]
        rows = [((0, 1), moves)] + [((), [(0, (), ())])] * 4
        coder = Coder(2, (0,), [(True, [(0, [const(0)])], [(0, 1), (1, 2)] * 3)] + [(False, (), [(0, 0)])] * 4, 3)
        program = Program(Controller((2, 2), 1, (), rows), [coder, coder])
        told = self.check_fit(world, program, (1,))
        self.assertIsNone(keeping_fault(world, program, told))
        self.assertEqual({key[2] for key, _, _ in told.lines}, {(0, 0), (1, 0), (2, 0)})

    def test_anchors_in_any_order_and_with_the_start_key(self):
        world, program = chain(3)
        first, second, third = [line(state, ((-2, 2),)) for state in range(3)]
        for anchors in ([first, second, third], [third, first, second], (second,), [third, second]):
            told = self.check_fit(world, program, (), anchors)
            self.assertIsNone(keeping_fault(world, program, told))
        # An anchor with the start key that leaves a start out is taken as it is.
        begun = half_world((5, 1), (1, 2))
        small = line(0, ((-2, 2),))
        told = self.check_fit(begun, still_program(begun), (), [small])
        self.assertEqual(told.lines, (small,))
        self.assertEqual(keeping_fault(begun, still_program(begun), told).what, "start")
        self.raises(NotClosed, {"key": (0, 0, ())}, fit_keeping, begun, still_program(begun), (), [line(0, ((-2, 1),))])

    def test_lists_stay_and_are_not_kept(self):
        world, program = chain(2)
        anchors = [as_lists(line(0, ((-2, 2),)))]
        kept = as_lists(anchors)
        told = fit_keeping(world, program, [], anchors)
        self.assertEqual(anchors, kept)
        due = told.lines
        anchors[0][2].clear()
        self.assertEqual(told.lines, due)

    def test_wrong_arguments_in_order(self):
        world = clean_world((1, 2), 2, 2, [(0,)])
        program = still_program(world)
        other = still_program(clean_world((1, 2), 3, 2))
        self.raises(NoFit, {"fault": ("outcomes", 0)}, fit_keeping, world, other, None, None)
        for lot in NO_SEQUENCES + ((1,), (2,), (0, 1), (0, 0), (1, 0), (True,), (-1,), (4,), (0, 1, 2, 3, 4)):
            self.raises(NoGroup, {}, fit_keeping, world, program, lot, None)
        for lines in NO_SEQUENCES + ([None] * 2001,):
            self.raises(BadKeeping, {"what": "lines", "index": 0}, fit_keeping, world, program, (0,), lines)
        good = line(memories=(0, 0), ends=((-2, 2),))
        for what, index, lines in (
            ("line", 0, [None]), ("key", 1, [good, good]), ("spans", 0, [(good[0], None, ())]), ("ends", 1, [good, ((0, 1, ()), (), None)]),
            ("fit", 0, [line(1, memories=(0, 0))]), ("fit", 0, [line(memories=(0,))]), ("fit", 0, [line(memories=(0, 1))]), ("fit", 0, [line(memories=(1, 0))]),
            ("fit", 0, [line(phase=1, memories=(0, 0))]), ("fit", 0, [line(ends=(), memories=(0, 0))]), ("fit", 0, [line(spans=(((0, 1), ONE),), memories=(0, 0))]),
            ("fit", 1, [line(5, memories=(0, 0)), good]), ("fit", 1, [line(6, memories=(0, 0)), line(5, memories=(0, 0)), good]),
        ):
            self.raises(BadKeeping, {"what": what, "index": index}, fit_keeping, world, program, (0,), lines)
        self.assertIsNone(keeping_fault(world, program, fit_keeping(world, program, (0,), [good])))
        self.assertIsNone(keeping_fault(world, program, fit_keeping(world, program, [], (good,))))

    def test_drawn_programs(self):
        source = random.Random(1)
        told = {}
        for _ in range(160):
            world = some_plant_world(source, sensors=source.randint(0, 2), words=2, outcomes=2, size=2)
            program = some_program(source, world)
            if source.random() < 0.7:
                plant = world.plant
                world = world.with_plant(Plant([[make_ratio(source.choice((-1, 1)), 3) for _ in row] for row in plant.factors], plant.pushes, plant.starts))
                program = self.with_constants(program)
            lot = source.choice(world.lots)
            lot = tuple(sorted(source.sample(lot, source.randint(0, len(lot)))))
            anchors = [self.some_line(source, world, program, lot)] if source.random() < 0.3 else []
            what = self.compared(world, program, lot, anchors)
            told[what] = told.get(what, 0) + 1
        self.assertGreater(min(told.get(what, 0) for what in ("done", "closed", "long")), 5)

    def with_constants(self, program):
        """Return the program whose changes are constants."""
        controller = program.controller
        rows = []
        for heeds, moves in controller.rows:
            rows.append((heeds, [(state, [(at, (form[0], ())) for at, form in changes], steps) for state, changes, steps in moves]))
        return Program(Controller(controller.outcomes, controller.modes, controller.registers, rows, controller.first), program.coders)

    def some_line(self, source, world, program, lot):
        registers = len(program.controller.registers)
        memories = tuple(0 if at in lot else source.randrange(coder.memories) for at, coder in enumerate(program.coders))
        ends = [(some_form(source, registers, 1), some_form(source, registers, 1)) for _ in range(world.plant.modes)]
        if source.random() < 0.8:
            ends = [flat(-40, 40)] * world.plant.modes
        return ((0, source.randrange(len(program)), memories), (((-9, 1), (9, 1)),) * registers, tuple(ends))

    def compared(self, world, program, lot, anchors):
        most = 20
        table = Table(world, program, Keeping(lot, anchors))
        try:
            for taken in range(8):
                if table.waiting:
                    table.take_first()
            part = plain_fit(world, program, lot, anchors, 8, True)
            self.assertEqual(tuple(table.lines[key] for key in sorted(table.lines)), part)
        except NotClosed:
            pass
        try:
            due = plain_fit(world, program, lot, anchors, most)
        except NotClosed as error:
            self.raises(NotClosed, {"key": error.key}, fit_keeping, world, program, lot, anchors)
            return "closed"
        except NotDone:
            return "long"
        told = fit_keeping(world, program, lot, anchors)
        self.assertEqual(told.lines, due)
        fault = keeping_fault(world, program, told)
        self.assertTrue(fault is None or fault.what == "start" and anchors)
        return "done"


class CompiledKeepingTest(HeldTest):
    def check_all(self, source, compiled):
        """Check [14.9] for each lot; return how many keepings were found."""
        world, program, found = compiled.world, compiled.program, []
        for place, lot in enumerate(world.lots):
            try:
                keeping = fit_keeping(world, program, lot, anchors_of(compiled, place))
            except NotDone:
                continue
            found.append(keeping)
            self.assertIsNone(keeping_fault(world, program, keeping))
            for told, bound in zip(keeping_bound(keeping), compiled.bounds):
                self.assertLessEqual(compare(told, bound), 0)
            for _ in range(2):
                liars = tuple(sorted(source.sample(lot, source.randint(0, len(lot)))))
                run = wild_run(source, compiled, 3, liars=liars)
                self.assertIsNone(leaving_tick(world, program, keeping, run))
                for size, bound in zip(greatest_sizes(world, program, run), keeping_bound(keeping)):
                    self.assertLessEqual(compare(size, bound), 0)
        if len(found) == len(world.lots):
            self.assertIsNone(keepings_fault(world, program, found))
        return len(found)

    def test_drawn_kept_worlds(self):
        source = random.Random(2)
        found = lots = 0
        for _ in range(60):
            compiled = compile_world(some_kept_world(source))
            world = compiled.world
            ticks = [(block_ticks(world, split), list_checkers(world, split)) for split in compiled.splits]
            if all(tick == last - 1 for last, checkers in ticks for _, tick in checkers):
                found += self.check_all(source, compiled)
                lots += len(world.lots)
        self.assertGreater(found, 40)
        self.assertGreaterEqual(found, lots - 6)

    def test_several_sensors_tell_one_mode(self):
        source = random.Random(3)
        for words, many, counts in ((2, 2, ((2, 2),)), (3, 2, ((3, 3),)), (2, 3, ((2, 2, 2),)), (4, 2, ((3, 4),))):
            world = World(plain_plant((-3, 2), start=(2, 1)), [Sensor((0,), Channel.clean(words))] * many)
            for telling in (1, 2, 3):
                try:
                    compiled = compile_splits(world, [Split((), False, 0, telling, 0, counts)])
                except TooLarge:
                    continue
                self.assertEqual(self.check_all(source, compiled), 1)

    def test_liars_and_the_bounds_of_their_lots(self):
        source = random.Random(4)
        compiled = compile_world(clean_world((3, 2), 2, 3, [(0,), (1,), (2,)]))
        self.assertEqual(self.check_all(source, compiled), 3)
        self.assertEqual(keeping_bound(fit_keeping(compiled.world, compiled.program, (2,), anchors_of(compiled, 2))), compiled.bounds)

    def test_in_time(self):
        begun = time.time()
        world = World(plain_plant((1, 2)), [Sensor((0,), Channel.clean(12))] * 3, [(0, 1, 2)])
        moves = [[((state + at) % 28, [(0, make_form(make_ratio(at % 7, 7), (0, (1, 2))))], [(0, make_form(make_ratio(at, 3000)))]) for at in range(1728)] for state in range(28)]
        coder = Coder(12, (0,), [(False, (), [(0, None)])] * 28)
        program = Program(Controller((12,) * 3, 1, whole(1), [((0, 1, 2), row) for row in moves]), [coder] * 3)
        self.raises(NotDone, {"most": 400}, fit_keeping, world, program, (0, 1, 2))
        self.assertLess(time.time() - begun, 10)
