"""RATE and TRUST decide: what holds over the whole program."""

import random

from farheld.compiling import compile_world
from farheld.deeds import deed_bounds, walk_deeds
from farheld.driving import drive_out, ticks_needed
from farheld.errors import Barred, HeldError, NotClosed, NotDone, TooLarge, TooLong, TooNear
from farheld.fitkeeping import fit_keeping
from farheld.fitting import fit_fault, still_program
from farheld.keeping import keeping_bound, keeping_fault, keepings_fault
from farheld.programtext import program_of_text, text_of_program
from farheld.ratios import compare, size_of
from farheld.running import beyond, greatest_sizes, run_fault
from farheld.verdicts import bar_fault, clearance_fault, find_bar, find_clearance
from tests.compiled import some_growing_world, wild_run
from tests.helpers import HeldTest
from tests.programs import some_program
from tests.test_fitkeeping import anchors_of


class WholeTest(HeldTest):
    def test_kept_worlds_are_kept_and_barred_ones_driven_out(self):
        source = random.Random(1)
        told = {"kept": 0, "barred": 0, "keepings": 0}
        for _ in range(80):
            world = some_growing_world(source)
            bar = find_bar(world)
            if bar is None:
                told["kept"] += 1
                told["keepings"] += self.check_kept(source, world)
            else:
                told["barred"] += 1
                self.check_barred(source, world, bar)
        self.assertGreater(min(told.values()), 12)

    def check_kept(self, source, world):
        """Check a kept world; return 1 if it has a keeping for each lot."""
        self.assertIsNone(clearance_fault(world, find_clearance(world)))
        try:
            compiled = compile_world(world)
        except (TooNear, TooLarge):
            return 0
        self.assertEqual(program_of_text(text_of_program(compiled.program)), compiled.program)
        run = wild_run(source, compiled, 3)
        for size, bound in zip(greatest_sizes(world, compiled.program, run), compiled.bounds):
            self.assertLessEqual(compare(size, bound), 0)
        self.check_untold(source, world)
        keepings = []
        for place, lot in enumerate(world.lots):
            try:
                keepings.append(fit_keeping(world, compiled.program, lot, anchors_of(compiled, place)))
            except (NotDone, NotClosed):
                # There are more lines than 400, or a check ahead of its block's end.
                return 0
        self.assertIsNone(keepings_fault(world, compiled.program, keepings))
        for size, bound in zip(greatest_sizes(world, compiled.program, run), self.greatest_bounds(keepings)):
            self.assertLessEqual(compare(size, bound), 0)
        return 1

    def greatest_bounds(self, keepings):
        told = list(keeping_bound(keepings[0]))
        for keeping in keepings:
            told = [one if compare(one, other) > 0 else other for one, other in zip(told, keeping_bound(keeping))]
        return told

    def check_untold(self, source, world):
        """Check that the plant is kept also if no outcome is told back."""
        try:
            compiled = compile_world(world, 8, 1)
        except (TooNear, TooLarge):
            return
        for pose in walk_deeds(world, compiled.program, wild_run(source, compiled, 1)):
            for position, bound in zip(pose.positions, deed_bounds(world, compiled.bounds)):
                self.assertLessEqual(compare(size_of(position), bound), 0)

    def check_barred(self, source, world, bar):
        self.assertIsNone(bar_fault(world, bar))
        self.raises(Barred, {"bar": bar}, find_clearance, world)
        self.raises(Barred, {"bar": bar}, compile_world, world)
        bound = (8, 1)
        try:
            ticks = ticks_needed(world, bar, bound)
        except TooLong:
            return
        if ticks > 40:
            return
        for program in (still_program(world), some_program(source, world)):
            self.assertIsNone(fit_fault(world, program))
            run = drive_out(world, program, bar, bound)
            self.assertIsNone(run_fault(world, program, run))
            self.assertLessEqual(len(run.ticks), ticks)
            self.assertIsNotNone(beyond(world, program, run, bound))
            self.check_no_keepings(world, program)

    def check_no_keepings(self, world, program):
        keepings = []
        for lot in world.lots:
            try:
                keepings.append(fit_keeping(world, program, lot))
            except HeldError:
                return
            self.assertIsNone(keeping_fault(world, program, keepings[-1]))
        self.assertIsNotNone(keepings_fault(world, program, keepings))
