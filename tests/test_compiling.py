import random
import time

from farheld.blocks import (
    block_ticks, count_paths, find_cell, guess_halves, list_checkers, next_half, told_bounds, told_middle,
)
from farheld.channels import Channel
from farheld.compiling import Compiled, compile_splits, compile_world
from farheld.deeds import quiet_fault
from farheld.digits import count_cells, count_told
from farheld.errors import BadSplits, Barred, TooLarge, TooNear
from farheld.fitting import fit_fault, still_program
from farheld.plants import Plant
from farheld.programs import Program
from farheld.ratios import compare, minus, negative, plus, size_of, times
from farheld.running import run_fault, walk
from farheld.splits import Split, list_tasks, plan_splits
from farheld.verdicts import find_bar
from farheld.worlds import Sensor, World
from tests.compiled import Listener, dead_first, some_growing_world, some_kept_world, wild_run
from tests.helpers import HeldTest, clean_use, clean_world, each_misses_one, plain_plant, ring, whole
from tests.test_blocks import checked_world


def product(numbers):
    told = 1
    for number in numbers:
        told *= number
    return told


def within(one, other):
    return compare(size_of(one), other) <= 0


def wide_world(growths, words, many):
    """Return a world of period 1 whose sensors see all modes and have so many clean words."""
    seen = tuple(range(len(growths)))
    return World(plain_plant(*growths), [Sensor(seen, Channel.clean(words))] * many)


def is_promised(world, splits):
    """Tell whether the document bars TooLarge for these splits."""
    states = sum((count_paths(world, split) + 1) * block_ticks(world, split) for split in splits)
    cells = [product(count_cells(split.counts, mode) for mode in range(world.plant.modes)) for split in splits]
    return max(cells) <= 100 and states <= 1900 and states * world.outcome_rows <= 50000


class CompiledTest(HeldTest):
    """What holds for each compiled program, by its parts and by its runs."""

    def check_parts(self, compiled):
        world, program = compiled.world, compiled.program
        self.assertIsNone(fit_fault(world, program))
        self.assertEqual(program.controller.registers, tuple(world.plant.starts[mode] for mode in world.plant.growing))
        self.assertEqual(program.controller.first, 0)
        self.assertEqual([coder.first for coder in program.coders], [0] * len(world.sensors))
        self.assertEqual(len(compiled.places), len(program))
        self.assertEqual(compiled.bounds, told_bounds(world, compiled.splits))
        self.assertEqual(compiled.halves, guess_halves(world, compiled.splits))
        for thing in (compiled.splits, compiled.places, compiled.bounds, compiled.halves):
            self.are_tuples(thing)
        begins = [state for state, (_, tick, _) in enumerate(compiled.places) if tick == 0]
        self.assertEqual([compiled.places[state] for state in begins], [(place, 0, False) for place in range(len(world.lots))])
        self.assertEqual([compiled.block_state(place) for place in range(len(world.lots))], begins)
        self.assertEqual(compiled.block_state(0), 0)
        for state, told in enumerate(compiled.places):
            self.assertEqual(compiled.find_place(state), told)
            self.check_state(compiled, state, *told)

    def check_state(self, compiled, state, place, tick, struck):
        world, split, program = compiled.world, compiled.splits[place], compiled.program
        ticks = block_ticks(world, split)
        self.assertIs(type(struck), bool)
        self.assertTrue(0 <= tick < ticks)
        heeds, moves = program.controller.rows[state]
        self.assertFalse(set(heeds) & set(split.guess) or struck and heeds)
        for sensor in heeds:
            self.assertTrue(self.is_asked(world, split, sensor, tick))
        for sensor, coder in enumerate(program.coders):
            recall, looks, replies = coder.rules[state]
            if struck or not self.is_asked(world, split, sensor, tick):
                # A helper looks in tick 0, too; all others say nothing.
                self.assertEqual({word for word, _ in replies}, {0})
                if tick > 0:
                    self.assertEqual((recall, looks, len(replies)), (False, (), 1))
            if tick == ticks - 1:
                self.assertEqual({memory for _, memory in replies}, {0})
        for behind, changes, steps in moves:
            told_place, told_tick, told_struck = compiled.places[behind]
            if tick < ticks - 1:
                self.assertEqual((changes, steps), ((), ()))
                self.assertEqual((told_place, told_tick), (place, tick + 1))
                self.assertTrue(told_struck or not struck)
            else:
                self.assertEqual([register for register, _ in changes], list(range(len(world.plant.growing))))
                self.assertEqual((told_tick, told_struck), (0, False))
                self.assertIn(told_place, (place + 1,) if struck else (place, place + 1))
                self.assertTrue(steps == () or told_place == place)
            if place == len(world.lots) - 1:
                self.assertFalse(told_struck)

    def is_asked(self, world, split, sensor, tick):
        """Tell whether a sensor tells, helps or checks at a tick."""
        if sensor in split.guess:
            return False
        if tick < split.telling * world.period:
            return count_told(split.counts, sensor) > 1
        if tick < (split.telling + split.listing) * world.period:
            return list_tasks(world, split.guess, split.counts, sensor) != ()
        return (sensor, tick) in list_checkers(world, split)

    def check_run(self, compiled, run):
        """Check [11.1] and [11.12], and that each tick does what [11.10] says; return the last place guessed."""
        world, program = compiled.world, compiled.program
        self.assertIsNone(run_fault(world, program, run))
        poses = walk(world, program, run)
        begin = poses[0]
        for at, pose in enumerate(poses):
            place, tick, struck = compiled.find_place(pose.state)
            self.assertTrue(all(within(x, bound) for x, bound in zip(pose.positions, compiled.bounds)))
            trusted = set(run.liars) <= set(world.lots[place])
            self.assertFalse(struck and trusted)
            if trusted and tick == block_ticks(world, compiled.splits[place]) - 1 and at + 1 < len(poses):
                self.assertEqual(compiled.find_place(poses[at + 1].state)[0], place)
            halves = compiled.halves_at(pose.state, pose.registers)
            if tick == 0:
                begin = pose
                listener = self.listener_at(compiled, pose)
                self.assertEqual(pose.memories, (0,) * len(world.sensors))
                self.assertTrue(all(within(x, half) for x, half in zip(pose.positions, halves)))
                self.assertTrue(all(within(half, most) for half, most in zip(halves, compiled.halves[place])))
                for register, mode in enumerate(world.plant.growing):
                    self.assertEqual(halves[mode], pose.registers[register])
            else:
                self.assertIsNone(halves)
                self.assertEqual(pose.registers, begin.registers)
            self.assertEqual(struck, listener.is_struck)
            if at + 1 < len(poses):
                self.check_words(compiled, pose, listener)
                listener.hear(tick, run.ticks[at][1])
                if trusted and tick + 1 == listener.ticks:
                    self.assertEqual(listener.told_cells(), tuple(listener.cells))
                self.check_tick(compiled, begin, pose, poses[at + 1], run.ticks[at], listener)
        return compiled.find_place(poses[-1].state)[0]

    def listener_at(self, compiled, pose):
        """Return a listener to the block that begins at a pose."""
        world, (place, _, _) = compiled.world, compiled.find_place(pose.state)
        split, halves = compiled.splits[place], list(compiled.halves[place])
        for register, mode in enumerate(world.plant.growing):
            halves[mode] = pose.registers[register]
        cells = [find_cell(split.counts, mode, half, x) for mode, (half, x) in enumerate(zip(halves, pose.positions))]
        return Listener(world, split, halves, cells)

    def check_words(self, compiled, pose, listener):
        """Check that each coder says what it must, and what a checker says just at the ends of its stretches."""
        world, program = compiled.world, compiled.program
        _, tick, struck = compiled.find_place(pose.state)
        for sensor, (coder, memory) in enumerate(zip(program.coders, pose.memories)):
            word, _ = coder.say(pose.state, pose.registers, memory, pose.positions)
            if listener.due_word(sensor, tick, pose.positions) is not None:
                self.assertEqual(word, listener.due_word(sensor, tick, pose.positions))
            if struck or listener.checks.get(sensor) != tick:
                continue
            cells = listener.told_cells()
            middles = list(pose.positions)
            ends = {mode: listener.stretch(mode, cells[mode], tick) for mode in world.sensors[sensor].seen if mode in world.plant.growing}
            for mode, (low, high) in ends.items():
                middles[mode] = times(plus(low, high), (1, 2))
            good, bad = world.sensors[sensor].channel.parted_words(tick)
            for mode, (low, high) in ends.items():
                for place, due in ((low, good), (minus(low, (1, 10 ** 30)), bad), (high, bad), (minus(high, (1, 10 ** 30)), good)):
                    tried = list(middles)
                    tried[mode] = place
                    self.assertEqual(coder.say(pose.state, pose.registers, memory, tried)[0], due)

    def check_tick(self, compiled, begin, pose, behind, told_tick, listener):
        world = compiled.world
        place, tick, _ = compiled.find_place(pose.state)
        split = compiled.splits[place]
        is_last = tick + 1 == block_ticks(world, split)
        was_struck = is_last and compiled.find_place(behind.state)[0] > place
        if is_last:
            self.assertEqual(was_struck, listener.is_struck)
        for mode in range(world.plant.modes):
            factor = world.plant.factors[mode][pose.tick % world.period]
            moved = plus(times(factor, pose.positions[mode]), told_tick[2][mode])
            told_input = minus(behind.positions[mode], moved)
            if mode not in world.plant.growing or not is_last or was_struck:
                self.assertEqual(told_input, (0, 1))
                continue
            half, cell = begin.registers[world.plant.growing.index(mode)], listener.told_cells()[mode]
            self.assertEqual(told_input, negative(told_middle(world, split, mode, half, cell, tick + 1)))
        if is_last:
            for register, mode in enumerate(world.plant.growing):
                due = next_half(world, split, mode, begin.registers[register], was_struck)
                self.assertEqual(behind.registers[register], due)


class WorldsTest(CompiledTest):
    def test_a_simple_program(self):
        compiled = compile_world(clean_world((3, 2), 2, 1))
        self.check_parts(compiled)
        self.assertEqual((compiled.places, compiled.bounds, compiled.halves), (((0, 0, False),), whole(4), (whole(4),)))
        heeds, moves = compiled.program.controller.rows[0]
        self.assertEqual(heeds, (0,))
        # Of the half h the middles are -h/2 and h/2, which 3/2 carries to the end; the next half is 3/4 h + 1.
        change = ((0, ((1, 1), ((0, (3, 4)),))),)
        self.assertEqual(moves[0], (0, change, ((0, ((0, 1), ((0, (3, 4)),))),)))
        self.assertEqual(moves[1], (0, change, ((0, ((0, 1), ((0, (-3, 4)),))),)))
        self.assertEqual(compiled.program.coders[0].rules[0][2], ((0, 0), (1, 0)))

    def test_drawn_worlds(self):
        source = random.Random(11)
        seen = {}
        for _ in range(60):
            world = some_kept_world(source)
            compiled = compile_world(world)
            self.check_parts(compiled)
            for _ in range(2):
                last = self.check_run(compiled, wild_run(source, compiled, 3))
                what = (any(split.listing for split in compiled.splits), last > 0)
                seen[what] = seen.get(what, 0) + 1
        self.assertGreater(len(seen), 1)

    def test_idle_programs_are_quiet(self):
        source = random.Random(12)
        told = 0
        while told < 15:
            world = some_kept_world(source)
            try:
                compiled = compile_world(world, 8, 1)
            except (TooNear, TooLarge):
                continue
            told += 1
            self.check_parts(compiled)
            self.assertIsNone(quiet_fault(compiled.program))
            self.check_run(compiled, wild_run(source, compiled, 2))

    def test_starts_and_pushes_at_their_ends(self):
        world = checked_world()
        source = random.Random(13)
        for idle in (0, 1):
            compiled = compile_world(world, 8, idle)
            self.check_parts(compiled)
            for start in ([(4, 1), (3, 1)], [(-4, 1), (3, 1)], [(0, 1), (-3, 1)], ((4, 1), (0, 1))):
                for liars in ((), (0,), (1,), (2,)):
                    self.check_run(compiled, wild_run(source, compiled, 3, start, liars))

    def test_each_lot_is_guessed_in_time(self):
        # The liar of a later lot makes all guesses before its own be struck.
        world = checked_world()
        compiled = compile_world(world)
        source = random.Random(14)
        far = [self.check_run(compiled, wild_run(source, compiled, 6, liars=(liar,))) for liar in (2, 2, 2, 1, 1, 1, 0, 0)]
        self.assertEqual(max(far[:3]), 2)
        self.assertEqual(max(far[3:6]), 1)
        self.assertEqual(far[6:], [0, 0])

    def test_paired_lots_and_late_checks(self):
        source = random.Random(15)
        plant = Plant([[(4, 3), (1, 1)]], whole(1), whole(2))
        sensors = [Sensor((0,), dead_first())] * 4
        for lots in ([(0,), (1,)], [(0, 1), (2,)], [(0,), (1,), (2,), (3,)], [(0,), ()]):
            compiled = compile_world(World(plant, sensors, lots))
            self.check_parts(compiled)
            for tick in [tick for split in compiled.splits for _, tick in list_checkers(compiled.world, split)]:
                self.assertEqual(tick % 2, 1)
            for _ in range(4):
                self.check_run(compiled, wild_run(source, compiled, 3))

    def test_listed_sensors(self):
        source = random.Random(16)
        for uses, factor, lots in (
            ((ring(3), clean_use(2)), (6, 5), ()),
            ((ring(5), clean_use(3), each_misses_one(4)), (5, 4), [(0,), (2,)]),
            ((ring(5), clean_use(3), each_misses_one(4), clean_use(2)), (2, 1), [(0,), (2,)]),
            ((each_misses_one(12), clean_use(2), each_misses_one(12)), (9, 8), ()),
        ):
            world = World(plain_plant(factor, (6, 5), start=(2, 1)), [Sensor((0, 1), Channel(12, [use])) for use in uses], lots)
            splits = plan_splits(world)
            try:
                compiled = compile_splits(world, splits)
            except TooLarge:
                self.assertFalse(is_promised(world, splits))
                continue
            self.check_parts(compiled)
            for _ in range(4):
                self.check_run(compiled, wild_run(source, compiled, 3))

    def test_a_list_is_finished_by_its_helper(self):
        # Sensor 0 tells one of 4 parts up to a list of two; the helper tells which of them it is.
        world = World(plain_plant((6, 5), start=(3, 1)), [Sensor((0,), Channel(3, [ring(3)])), Sensor((0,), Channel.clean(2))])
        split = Split((), False, 0, 2, 1, ((4, 1),))
        compiled = compile_splits(world, [split])
        self.check_parts(compiled)
        source = random.Random(17)
        for _ in range(20):
            self.check_run(compiled, wild_run(source, compiled, 3))
        self.assertEqual([heeds for heeds, _ in compiled.program.controller.rows][0], (0,))
        self.assertIn((1,), [heeds for heeds, _ in compiled.program.controller.rows])

    def test_a_helper_that_tells_too_beside_a_listed_liar(self):
        # Sensor 3 leaves lists of two for both modes; sensor 1 tells a digit of its own and helps with both.
        uses = (clean_use(2), clean_use(4), clean_use(4), ring(3))
        plant = plain_plant((6, 5), (-6, 5), start=(3, 1))
        world = World(plant, [Sensor((0, 1), Channel(4, [use])) for use in uses], [(0,), (3,)])
        splits = [Split((0,), True, 0, 2, 1, ((1, 2, 1, 2), (1, 1, 2, 2))), Split((3,), False, 0, 1, 0, ((1, 2, 1, 1), (1, 1, 2, 1)))]
        self.assertEqual(list_tasks(world, (0,), splits[0].counts, 1), ((0, 3), (1, 3)))
        compiled = compile_splits(world, splits)
        self.check_parts(compiled)
        source = random.Random(27)
        far = [self.check_run(compiled, wild_run(source, compiled, 3, liars=liars)) for liars in ((3,), (0,), ()) * 12]
        self.assertEqual(set(far), {0, 1})

    def test_longer_blocks_than_are_needed(self):
        world = checked_world()
        source = random.Random(18)
        splits = []
        for place, lot in enumerate(world.lots):
            counts = [[1] * 3, [1] * 3]
            for sensor in (0, 1, 2):
                if sensor not in lot:
                    counts[0][sensor] = 4 + place % 2
            splits.append(Split(lot, place < 2, place % 2, 2, 0 if place else 1, tuple(map(tuple, counts))))
        compiled = compile_splits(world, splits)
        self.check_parts(compiled)
        for _ in range(6):
            self.check_run(compiled, wild_run(source, compiled, 3))

    def test_nothing_grows(self):
        source = random.Random(19)
        plant = plain_plant((1, 2), (-1, 3), start=(5, 1))
        for sensors, lots in (((), ()), ([Sensor((0,), Channel.clean(2))] * 3, [(0,), (1, 2)])):
            compiled = compile_world(World(plant, sensors, lots))
            self.check_parts(compiled)
            self.assertEqual(compiled.program.controller.registers, ())
            self.assertEqual(compiled.halves[0], whole(5, 5))
            self.assertEqual(compiled.halves_at(0, ()), whole(5, 5))
            self.check_run(compiled, wild_run(source, compiled, 4))


class HalvesTest(CompiledTest):
    def test_halves_at(self):
        world = checked_world()
        compiled = compile_world(world)
        for place, split in enumerate(compiled.splits):
            state, ticks = compiled.block_state(place), block_ticks(world, split)
            for half in ((0, 1), (7, 3)):
                for tick in range(ticks):
                    due = []
                    for mode, one in enumerate((half, compiled.halves[place][1])):
                        plant = world.plant
                        due.append(plus(times(plant.growth(mode, 0, tick), one), plant.gathered(mode, 0, tick)))
                    self.assertEqual(compiled.halves_at(state, [half], tick), tuple(due))
                    self.assertEqual(compiled.halves_at(state, (half,), ticks=tick), tuple(due))
                for tick in (-1, ticks, ticks + 1, None, True, False, "0", (0, 1)):
                    self.assertIsNone(compiled.halves_at(state, (half,), tick))
        for state, (_, tick, _) in enumerate(compiled.places):
            if tick > 0:
                self.assertIsNone(compiled.halves_at(state, whole(1)))
                self.assertIsNone(compiled.halves_at(state, whole(1), 0))

    def test_equality(self):
        world = clean_world((3, 2), 2, 1)
        compiled = compile_world(world)
        splits, program, places = compiled.splits, compiled.program, compiled.places
        self.assertTrue(compiled == Compiled(clean_world((3, 2), 2, 1), splits, program, places))
        self.assertFalse(compiled != Compiled(world, splits, program, places))
        others = [
            Compiled(World(plain_plant((3, 2), start=(1, 1)), world.sensors), splits, program, places),
            Compiled(world, (Split((), False, 1, 2, 0, ((4,),)),), program, places),
            Compiled(world, splits, still_program(world), places),
            Compiled(world, splits, program, ((0, 0, True),)),
        ]
        for other in others + [None, 3, (world, splits, program, places)]:
            self.assertFalse(compiled == other)
            self.assertTrue(compiled != other)

    def test_what_is_given_is_kept(self):
        world = clean_world((3, 2), 2, 1)
        compiled = compile_world(world)
        splits, places = list(compiled.splits), [(0, 0, False)]
        told = Compiled(world, splits, compiled.program, places)
        self.assertIs(told.splits, splits)
        self.assertIs(told.places, places)
        self.assertEqual((told.bounds, told.halves), (compiled.bounds, compiled.halves))
        self.assertEqual((told.find_place(0), told.block_state(0)), ((0, 0, False), 0))


class CompileTest(CompiledTest):
    def test_equal_arguments_by_turns(self):
        world = checked_world()
        first, idle = compile_world(world), compile_world(world, 8, 1)
        self.assertTrue(first != idle)
        self.assertIsNotNone(quiet_fault(first.program) if block_ticks(world, first.splits[-1]) == 2 else 0)
        for told, due in ((compile_world(world, 8, 0), first), (compile_world(world, idle=1), idle),
                          (compile_world(checked_world()), first), (compile_splits(world, list(idle.splits)), idle),
                          (compile_splits(checked_world(), first.splits), first)):
            self.assertTrue(told == due)
            self.assertEqual(told.program, due.program)
        self.assertEqual(first.splits, plan_splits(world))
        self.assertEqual(idle.splits, plan_splits(world, 8, 1))

    def test_a_list_of_splits_may_change_later(self):
        world = checked_world()
        splits = list(plan_splits(world))
        kept = tuple(splits)
        compiled = compile_splits(world, splits)
        self.assertEqual(tuple(splits), kept)
        splits.clear()
        self.assertEqual(compiled.splits, kept)
        self.assertEqual(compiled, compile_splits(world, kept))

    def test_barred_worlds(self):
        for world in (clean_world((2, 1), 2, 1), clean_world((3, 2), 2, 2, [(0,), (1,)]), clean_world((1, 1), 2, 0)):
            bar = find_bar(world)
            self.assertIsNotNone(bar)
            self.raises(Barred, {"bar": bar}, compile_world, world)
        source = random.Random(20)
        barred = 0
        while barred < 60:
            world = some_growing_world(source)
            bar = find_bar(world)
            if bar is not None:
                barred += 1
                self.raises(Barred, {"bar": bar}, compile_world, world, source.randint(0, 8), source.randint(0, 1))

    def test_too_near_and_wrong_splits(self):
        world = clean_world((3, 2), 2, 1)
        self.raises(TooNear, {"tried": 0}, compile_world, world, 0)
        self.raises(TooNear, {"tried": 1}, compile_world, world, 1, 1)
        self.raises(TooNear, {"tried": 8}, compile_world, clean_world((199, 100), 2, 1), 8, 1)
        splits = plan_splits(world)
        for thing in (None, "0", {}, 3, (), splits * 2, [None], [True], (Split((0,), False, 0, 1, 0, ((2,),)),),
                      [Split((), False, 0, 1, 0, ((1,),))], [Split((), True, 0, 1, 0, ((2,),))]):
            self.raises(BadSplits, {"place": 0}, compile_splits, world, thing)
        checked = checked_world()
        told = plan_splits(checked)
        self.raises(BadSplits, {"place": 2}, compile_splits, checked, told[:2] + (told[0],))

    def test_products_of_cells(self):
        for growths, words, many, large in (
            ([(8, 1), (8, 1)], 9, 2, False), ([(9, 1), (9, 1)], 10, 2, False), ([(80, 1)], 9, 2, False), ([(99, 1)], 10, 2, False),
            ([(8, 1), (8, 1)], 3, 4, None), ([(10, 1), (10, 1)], 11, 2, None), ([(11, 1), (11, 1)], 12, 2, None),
            ([(120, 1)], 11, 2, None), ([(143, 1)], 12, 2, None),
        ):
            world = wide_world(growths, words, many)
            splits = plan_splits(world)
            if large is False:
                self.assertTrue(is_promised(world, splits))
            try:
                compiled = compile_splits(world, splits)
            except TooLarge:
                self.assertIsNone(large)
                self.assertFalse(is_promised(world, splits))
                continue
            self.check_parts(compiled)
            self.check_run(compiled, wild_run(random.Random(21), compiled, 4))

    def test_each_side_of_the_promised_sum(self):
        # Two telling ticks of twelve outcomes make 144 paths; each period more makes T two greater.
        world = World(Plant([[(1, 1), (1, 1)]], whole(1), whole(1)), [Sensor((0,), Channel.clean(12, 2))])
        told = []
        for listing, idle in ((0, 0), (4, 1), (5, 0), (6, 0), (6, 1), (8, 1)):
            splits = [Split((), False, idle, 1, listing, ((100,),))]
            told.append(is_promised(world, splits))
            compiled = compile_splits(world, splits)
            self.check_parts(compiled)
            self.check_run(compiled, wild_run(random.Random(22), compiled, 2))
        self.assertEqual(told, [True, True, True, False, False, False])

    def test_drawn_splits_that_are_promised_are_never_too_large(self):
        source = random.Random(23)
        promised = large = 0
        for _ in range(400):
            world = some_growing_world(source)
            try:
                splits = plan_splits(world, 8, source.randint(0, 1))
            except (Barred, TooNear):
                continue
            promised += is_promised(world, splits)
            try:
                compile_splits(world, splits)
            except TooLarge:
                large += 1
                self.assertFalse(is_promised(world, splits))
        self.assertGreater(promised, 20)
        self.assertGreater(large, 2)

    def test_blocks_are_at_most_8_unless_told_otherwise(self):
        # With an idle period two words need 7 telling periods: 2 to the power of 7 is above 1.83 to the power of 8.
        world = clean_world((183, 100), 2, 1)
        self.raises(TooLarge, {}, compile_world, world, idle=1)
        self.raises(TooLarge, {}, compile_world, world, 8, 1)
        self.raises(TooNear, {"tried": 7}, compile_world, world, 7, 1)
        self.raises(TooNear, {"tried": 8}, compile_world, clean_world((93, 50), 2, 1), idle=1)

    def test_each_side_of_100_thresholds(self):
        for cells, large in ((100, False), (101, False), (102, True), (600, True)):
            world = World(plain_plant((cells - 1, 1)), [Sensor((0,), Channel.clean(12))] * 3)
            splits = [Split((), False, 0, 3, 0, ((cells, 1, 1),))]
            world = world.with_plant(plain_plant((1, 1)))
            if large:
                self.raises(TooLarge, {}, compile_splits, world, splits)
                continue
            compiled = compile_splits(world, splits)
            self.check_parts(compiled)
            self.check_run(compiled, wild_run(random.Random(25), compiled, 2))

    def test_each_side_of_2000_states(self):
        # Behind the telling period each cell has a state in each of so many ticks.
        world = World(Plant([[(1, 1)] * 4], whole(1), whole(1)), [Sensor((0,), Channel.clean(10, 4))])
        for cells, listing, large in ((51, 8, False), (57, 8, True), (100, 3, False), (100, 4, True)):
            splits = [Split((), False, 1, 1, listing, ((cells,),))]
            if large:
                self.raises(TooLarge, {}, compile_splits, world, splits)
            else:
                compiled = compile_splits(world, splits)
                self.assertGreater(len(compiled.program), 1800 if cells < 100 else 1500)
                self.check_parts(compiled)

    def test_each_side_of_50000_moves(self):
        # Three checkers of twelve outcomes are heeded at once for each told cell of sensor 1.
        world = World(plain_plant((1, 1), start=(1, 1)), [Sensor((0,), Channel.clean(12))] * 4, [(0,), (1,)])
        for cells, large in ((20, False), (28, False), (29, True), (60, True)):
            splits = [Split((0,), True, 0, 2, 0, ((1, cells, 1, 1),)), Split((1,), False, 0, 1, 0, ((1, 1, 2, 1),))]
            if large:
                self.raises(TooLarge, {}, compile_splits, world, splits)
                continue
            compiled = compile_splits(world, splits)
            moves = sum(len(row) for _, row in compiled.program.controller.rows)
            self.assertTrue(1728 * cells < moves <= 50000)
            self.check_parts(compiled)
            self.check_run(compiled, wild_run(random.Random(26), compiled, 3))

    def test_too_large(self):
        # 600 messages of two sensors are more than a coder may have thresholds for.
        world = World(plain_plant((300, 1)), [Sensor((0,), Channel.clean(12))] * 3)
        self.raises(TooLarge, {}, compile_world, world)
        self.raises(TooLarge, {}, compile_splits, world, plan_splits(world))
        # Three sensors that tell four bits each, period by period, would need 16 * 16 * 16 states.
        slow = World(plain_plant((2, 1), (2, 1)), [Sensor((0, 1), Channel.clean(3))] * 3)
        self.raises(TooLarge, {}, compile_splits, slow, [Split((), False, 0, 5, 0, ((6, 6, 6), (40, 40, 40)))])
        self.check_parts(compile_world(slow))

    def test_large_programs_in_time(self):
        begun = time.time()
        for world in (
            World(plain_plant((3, 2), (4, 3)), [Sensor((0, 1), Channel(12, [clean_use(3)]))] * 4, [(0,), (1,), (2,), (3,)]),
            World(plain_plant((3, 2), (4, 3), (1, 2)), [Sensor((0, 1, 2), Channel(12, [clean_use(4)]))] * 4, [(0,), (1,), (2,), (3,)]),
            World(Plant([[(101, 100)] * 4], whole(1), whole(1)), [Sensor((0,), Channel(12, [clean_use(12)] * 4))] * 4, [(0,), (1,), (2,), (3,)]),
            wide_world([(8, 1), (8, 1)], 3, 4),
        ):
            compiled = compile_world(world)
            self.assertLessEqual(sum(len(moves) for _, moves in compiled.program.controller.rows), 50000)
            self.check_run(compiled, wild_run(random.Random(24), compiled, 2))
        self.assertLess(time.time() - begun, 6)

    def test_programs_of_others_keep_their_places(self):
        compiled = compile_world(checked_world())
        self.assertIsInstance(compiled.program, Program)
        names = list(range(len(compiled.program)))[::-1]
        renamed = Compiled(compiled.world, compiled.splits, compiled.program.rename_states(names), compiled.places[::-1])
        for place in range(3):
            state = renamed.block_state(place)
            self.assertEqual(state, names[compiled.block_state(place)])
            self.assertEqual(renamed.halves_at(state, whole(1)), compiled.halves_at(compiled.block_state(place), whole(1)))
