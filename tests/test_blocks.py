import itertools
import random
import time
from fractions import Fraction

from farheld.blocks import (
    block_ticks, cell_middle, count_paths, find_cell, find_extra, guess_halves, list_checkers, next_half, rest_half,
    told_bounds, told_half, told_middle,
)
from farheld.channels import Channel
from farheld.digits import count_cells, count_told
from farheld.errors import BadSplits
from farheld.plants import Plant
from farheld.ratios import compare, make_ratio, minus, size_of
from farheld.splits import Split, list_tasks, plan_splits, split_fault
from farheld.worlds import Sensor, World
from tests.compiled import dead_first, some_kept_world
from tests.helpers import DEAD, HeldTest, as_lists, clean_use, clean_world, plain_plant, ring, whole


def part(ratio):
    return Fraction(*ratio)


def ratio_of(fraction):
    return make_ratio(fraction.numerator, fraction.denominator)


class Facts:
    """What the document tells of a block, worked out by its plain words."""

    def __init__(self, world, split):
        self.world, self.split = world, split
        periods = split.telling + split.listing + (1 if split.checked else 0) + split.idle
        self.ticks = periods * world.period

    def growth(self, mode, first, ticks):
        row = self.world.plant.factors[mode]
        told = Fraction(1)
        for tick in range(first, first + ticks):
            told *= abs(part(row[tick % len(row)]))
        return told

    def gathered(self, mode, first, ticks):
        row = self.world.plant.factors[mode]
        told = Fraction(0)
        for tick in range(first, first + ticks):
            told = told * abs(part(row[tick % len(row)])) + part(self.world.plant.pushes[mode])
        return told

    def grows(self, mode):
        return self.growth(mode, 0, self.world.period) >= 1

    def checkers(self):
        if not self.split.checked:
            return ()
        told = []
        for at, sensor in enumerate(self.world.sensors):
            solid = [phase for phase in range(self.world.period) if sensor.channel.kind_at(phase) == "solid"]
            if at not in self.split.guess and solid and any(self.grows(mode) for mode in sensor.seen):
                told.append((at, (self.split.telling + self.split.listing) * self.world.period + solid[0]))
        return tuple(told)

    def cells(self, mode):
        told = 1
        for count in self.split.counts[mode]:
            told *= count
        return told

    def extra(self, mode):
        told = [Fraction(0)]
        for sensor, tick in self.checkers():
            if mode in self.world.sensors[sensor].seen and self.grows(mode):
                told.append(self.growth(mode, tick, self.ticks - tick) * part(self.world.plant.pushes[mode]))
        return max(told)

    def next_half(self, mode, half, struck):
        growth, gathered = self.growth(mode, 0, self.ticks), self.gathered(mode, 0, self.ticks)
        if struck or not self.grows(mode):
            return growth * half + gathered
        return growth * half / self.cells(mode) + gathered + self.extra(mode)

    def rest_half(self, mode):
        n = self.cells(mode)
        constant = self.gathered(mode, 0, self.ticks) + self.extra(mode)
        return n * constant / (n - self.growth(mode, 0, self.ticks))


def due_halves(world, splits):
    """Return the rows of halves by the plain words of [11.7]."""
    rows = []
    for place, split in enumerate(splits):
        facts = Facts(world, split)
        row = []
        for mode in range(world.plant.modes):
            if place == 0:
                other = part(world.plant.starts[mode])
            else:
                other = Facts(world, splits[place - 1]).next_half(mode, rows[-1][mode], True)
            row.append(max(facts.rest_half(mode), other))
        rows.append(row)
    return rows


def checked_world():
    """Return a world of two modes and period 2 in which one of three sensors may lie; the first is solid late."""
    plant = Plant([[(3, 2), (-5, 4)], [(1, 2), (1, 1)]], [(1, 2), (1, 1)], [(4, 1), (3, 1)])
    sensors = [Sensor((0, 1), dead_first()), Sensor((0,), Channel.clean(3, 2)), Sensor((0, 1), Channel.clean(3, 2))]
    return World(plant, sensors, [(0,), (1,), (2,)])


class PartsTest(HeldTest):
    def test_ticks_and_checkers(self):
        world = checked_world()
        split = Split((1,), True, 0, 2, 1, ((3, 1, 3), (1, 1, 1)))
        self.assertEqual(block_ticks(world, split), 8)
        self.assertEqual(block_ticks(world, Split((2,), False, 1, 1, 0, ())), 4)
        self.assertEqual(list_checkers(world, split), ((0, 7), (2, 6)))
        self.assertEqual(list_checkers(world, Split((0,), True, 1, 1, 0, ((1, 3, 3), (1, 1, 1)))), ((1, 2), (2, 2)))
        self.assertEqual(list_checkers(world, Split((2,), False, 0, 2, 1, ((3, 3, 1), (1, 1, 1)))), ())

    def test_checkers_see_a_growing_mode_and_are_solid(self):
        plant = Plant([[(2, 1)], [(1, 2)]], whole(1, 1), whole(0, 0))
        uses = (clean_use(2), clean_use(2), ring(3), DEAD)
        seen = ((1,), (0, 1), (0,), (0,))
        world = World(plant, [Sensor(modes, Channel(4, [use])) for modes, use in zip(seen, uses)], [(0,), (1,)])
        self.assertEqual(list_checkers(world, Split((0,), True, 0, 2, 0, ((1, 4, 1, 1), (1, 1, 1, 1)))), ((1, 2),))
        self.assertEqual(list_checkers(world, Split((1,), False, 0, 1, 0, ((1, 1, 1, 1), (1, 1, 1, 1)))), ())

    def test_cells(self):
        counts = [[3, 1], [2, 2], [1, 1]]
        # For n = 3 the thresholds of a half of 3 are -1 and 1.
        told = [(-9, 0), (-3, 0), (-2, 0), (-1, 1), (0, 1), (1, 2), (2, 2), (3, 2), (100, 2)]
        for position, cell in told:
            self.assertEqual(find_cell(counts, 0, (3, 1), (position, 1)), cell)
        self.assertEqual(find_cell(counts, 0, (3, 1), (-1001, 1000)), 0)
        self.assertEqual(find_cell(counts, 0, (3, 1), (-999, 1000)), 1)
        self.assertEqual(find_cell(counts, 0, (3, 1), (999, 1000)), 1)
        self.assertEqual([find_cell(counts, 1, (1, 1), (at, 4)) for at in (-3, -2, -1, 0, 1, 2, 3)], [0, 1, 1, 2, 2, 3, 3])
        self.assertEqual([find_cell(counts, 2, (1, 1), (at, 1)) for at in (-5, 0, 5)], [0, 0, 0])

    def test_a_half_of_zero(self):
        for counts, last in (([[3, 1]], 2), ([[1, 1]], 0), ([[2, 5]], 9)):
            self.assertEqual([find_cell(counts, 0, (0, 1), (at, 1)) for at in (-1, 0, 1)], [0, last, last])
            self.assertEqual(cell_middle(counts, 0, (0, 1), last), (0, 1))

    def test_middles(self):
        self.assertEqual([cell_middle([[3]], 0, (3, 1), cell) for cell in range(3)], list(whole(-2, 0, 2)))
        self.assertEqual([cell_middle([[1], [2, 2]], 1, (1, 3), cell) for cell in range(4)], [(-1, 4), (-1, 12), (1, 12), (1, 4)])
        self.assertEqual(cell_middle(((1,),), 0, (7, 2), 0), (0, 1))

    def test_cells_by_the_plain_words(self):
        source = random.Random(1)
        for _ in range(400):
            counts = [[source.randint(1, 4), source.randint(1, 4)]]
            n = counts[0][0] * counts[0][1]
            half = Fraction(source.randint(0, 5), source.randint(1, 4))
            position = half * source.randint(-n - 1, n + 1) / n + source.choice((0, 0, Fraction(1, 1000), Fraction(-1, 1000)))
            passed = [c for c in range(1, n) if half * (2 * c - n) / n <= position]
            self.assertEqual(find_cell(counts, 0, ratio_of(half), ratio_of(position)), len(passed))

    def test_each_position_is_half_a_cell_from_its_middle(self):
        source = random.Random(2)
        for _ in range(200):
            counts = [[source.randint(1, 5), source.randint(1, 4)]]
            half = make_ratio(source.randint(1, 9), source.randint(1, 4))
            position = make_ratio(half[0] * source.randint(-12, 12), half[1] * 12)
            middle = cell_middle(counts, 0, half, find_cell(counts, 0, half, position))
            gap = size_of(minus(position, middle))
            self.assertLessEqual(compare(gap, make_ratio(half[0], half[1] * count_cells(counts, 0))), 0)

    def test_told_stretches(self):
        world = checked_world()
        split = Split((1,), True, 0, 2, 1, ((3, 1, 3), (1, 1, 1)))
        # Behind three ticks factors of 3/2, -5/4 and 3/2 have met; the cell's middle is 4/9 of the half.
        self.assertEqual(told_middle(world, split, 0, (9, 1), 6, 3), (-45, 4))
        pushed = Fraction(1, 2) * (Fraction(15, 8) + Fraction(3, 2) + 1)
        self.assertEqual(told_half(world, split, 0, (9, 1), 3), ratio_of(Fraction(45, 16) + pushed))
        self.assertEqual(told_middle(world, split, 0, (9, 1), 6, 0), (4, 1))
        self.assertEqual(told_half(world, split, 0, (9, 1), 0), (1, 1))
        self.assertEqual(told_half(world, split, 0, (0, 1), 0), (0, 1))
        self.assertEqual(told_middle(world, split, 1, (8, 1), 0, 5), (0, 1))
        self.assertEqual(told_half(world, split, 1, (8, 1), 8), ratio_of(Fraction(8, 16) + Facts(world, split).gathered(1, 0, 8)))

    def test_told_stretches_are_all_that_a_cell_becomes(self):
        world = checked_world()
        split = Split((2,), False, 0, 1, 0, ((2, 2, 1), (1, 1, 1)))
        plant, half = world.plant, Fraction(4)
        for cell, tick in itertools.product(range(4), range(block_ticks(world, split) + 1)):
            ends = []
            for end, sides in itertools.product((cell, cell + 1), itertools.product((-1, 1), repeat=tick)):
                x = half * (2 * end - 4) / 4
                for at, side in enumerate(sides):
                    x = part(plant.factors[0][at % 2]) * x + side * part(plant.pushes[0])
                ends.append(x)
            middle, wide = told_middle(world, split, 0, (4, 1), cell, tick), told_half(world, split, 0, (4, 1), tick)
            self.assertEqual((min(ends), max(ends)), (part(middle) - part(wide), part(middle) + part(wide)))

    def test_extras(self):
        world = checked_world()
        split = Split((1,), True, 0, 2, 1, ((3, 1, 3), (1, 1, 1)))
        # The checks are at ticks 7 and 6 of 8: the push of 1/2 grows by 5/4, or by 3/2 and 5/4.
        self.assertEqual(find_extra(world, split, 0), (15, 16))
        self.assertEqual(find_extra(world, split, 1), (0, 1))
        late = Split((2,), True, 0, 2, 1, ((3, 3, 1), (1, 1, 1)))
        self.assertEqual(find_extra(world.with_lots([(2,), (0, 1)]), late, 0), (15, 16))
        self.assertEqual(find_extra(world, Split((2,), False, 0, 2, 1, ((3, 3, 1), (1, 1, 1))), 0), (0, 1))
        alone = World(world.plant, [Sensor((0, 1), dead_first())] + [Sensor((1,), Channel.clean(2, 2))], [(), (1,)])
        # The check is at tick 3 of 6, behind which 5/4, 3/2 and 5/4 meet.
        self.assertEqual(find_extra(alone, Split((1,), True, 1, 1, 0, ((2, 1), (1, 1))), 0), (75, 64))

    def test_a_checker_of_another_mode_is_no_matter(self):
        # Both modes grow; the late checker sees the second one alone.
        plant = Plant([[(2, 1), (3, 1)], [(2, 1), (1, 1)]], whole(1, 1), whole(0, 0))
        sensors = [Sensor((0,), dead_first()), Sensor((1,), Channel.clean(3, 2)), Sensor((0, 1), Channel.clean(3, 2))]
        world = World(plant, sensors, [(2,)])
        split = Split((2,), True, 0, 2, 0, ((1, 1, 1), (1, 1, 1)))
        self.assertEqual(list_checkers(world, split), ((0, 5), (1, 4)))
        self.assertEqual([find_extra(world, split, mode) for mode in (0, 1)], list(whole(3, 2)))

    def test_halves_of_a_simple_block(self):
        world = clean_world((3, 2), 2, 1)
        split = plan_splits(world)[0]
        self.assertEqual((split.telling, split.counts), (1, ((2,),)))
        self.assertEqual(next_half(world, split, 0, (8, 1), False), (7, 1))
        self.assertEqual(next_half(world, split, 0, (8, 1), True), (13, 1))
        self.assertEqual(next_half(world, split, 0, (4, 1), False), (4, 1))
        self.assertEqual(rest_half(world, split, 0), (4, 1))
        self.assertEqual(guess_halves(world, (split,)), (whole(4),))
        self.assertEqual(told_bounds(world, [split]), whole(4))
        started = World(plain_plant((3, 2), start=(9, 1)), world.sensors)
        self.assertEqual(guess_halves(started, [split]), (whole(9),))
        self.assertEqual(told_bounds(started, (split,)), whole(9))

    def test_paths(self):
        world = checked_world()
        self.assertEqual(count_paths(world, Split((1,), True, 0, 2, 1, ((3, 1, 3), (1, 1, 1)))), 3 ** 4 * 3 ** 4)
        self.assertEqual(count_paths(world, Split((1,), True, 1, 1, 1, ((3, 1, 1), (1, 1, 1)))), 9)
        self.assertEqual(count_paths(world, Split((), False, 0, 1, 8, ((1, 1, 1), (1, 1, 1)))), 1)
        uses = (ring(3), clean_use(2), clean_use(2))
        listed = World(plain_plant((2, 1)), [Sensor((0,), Channel(5, [use])) for use in uses])
        # The helper, sensor 1, tells nothing itself but has a task.
        self.assertEqual(count_paths(listed, Split((), False, 0, 3, 1, ((4, 1, 2),))), 5 ** 3 * 5 ** 3 * 5)
        self.assertEqual(count_paths(listed, Split((), False, 0, 3, 1, ((4, 2, 1),))), 5 ** 3 * 5 ** 3 * 5)
        self.assertEqual(count_paths(listed, Split((1,), False, 0, 3, 1, ((4, 1, 1),))), 5 ** 3 * 5)


class SplitsTest(HeldTest):
    def test_wrong_rows_of_splits(self):
        world = checked_world()
        splits = plan_splits(world)
        self.assertEqual([split.guess for split in splits], [(0,), (1,), (2,)])
        for call in (guess_halves, told_bounds):
            for thing in (None, 3, "012", {0: splits[0], 1: splits[1], 2: splits[2]}, (), splits[:2], splits + splits[:1],
                          [splits[0], None, splits[2]], [splits[0], (), 1], (True,) * 3, "abc", ["a", "b", "c"]):
                self.raises(BadSplits, {"place": 0}, call, world, thing)
            self.raises(BadSplits, {"place": 0}, call, world, (splits[1], splits[0], splits[2]))
            self.raises(BadSplits, {"place": 1}, call, world, (splits[0], splits[2], splits[1]))
            self.raises(BadSplits, {"place": 1}, call, world, (splits[0], splits[0], splits[0]))
            for name, worth in (("telling", 0), ("idle", True), ("guess", [1]), ("guess", (True,)), ("counts", ()), ("listing", 9), ("checked", False), ("checked", 1)):
                told = Split(splits[1].guess, True, 0, splits[1].telling, splits[1].listing, splits[1].counts)
                setattr(told, name, worth)
                self.raises(BadSplits, {"place": 1}, call, world, (splits[0], told, splits[2]))
                self.raises(BadSplits, {"place": 1}, call, world, (splits[0], told, told))
                self.raises(BadSplits, {"place": 0}, call, world, (told, told, splits[0]))

    def test_longer_blocks_and_idle_ones_are_right(self):
        world = checked_world()
        splits = []
        for place, lot in enumerate(world.lots):
            counts = tuple(tuple(1 if sensor in lot or mode else 9 for sensor in range(3)) for mode in range(2))
            splits.append(Split(lot, place < 2, place % 2, 2, place, counts))
            self.assertIsNone(split_fault(world, splits[-1]))
        self.check_halves(world, splits)
        self.check_halves(world, tuple(splits))

    def check_halves(self, world, splits):
        due = due_halves(world, splits)
        told = guess_halves(world, splits)
        self.assertEqual(told, tuple(tuple(ratio_of(half) for half in row) for row in due))
        self.are_tuples(told)
        bounds = []
        for mode in range(world.plant.modes):
            reached = []
            for split, row in zip(splits, due):
                facts = Facts(world, split)
                reached.extend(facts.growth(mode, 0, t) * row[mode] + facts.gathered(mode, 0, t) for t in range(facts.ticks))
            bounds.append(ratio_of(max(reached)))
        self.assertEqual(told_bounds(world, splits), tuple(bounds))
        self.are_tuples(told_bounds(world, splits))

    def test_all_by_the_plain_words_on_drawn_worlds(self):
        source = random.Random(3)
        for _ in range(40):
            world = some_kept_world(source)
            splits = plan_splits(world, idle=source.randint(0, 1)) if source.random() < 0.5 else plan_splits(world)
            self.check_halves(world, list(splits))
            for split in splits:
                facts = Facts(world, split)
                self.assertEqual(block_ticks(world, split), facts.ticks)
                self.assertEqual(list_checkers(world, split), facts.checkers())
                self.check_modes(source, world, split, facts)
                paths = 1
                for sensor in world.outside(split.guess):
                    if count_told(split.counts, sensor) > 1:
                        paths *= world.outcomes[sensor] ** (split.telling * world.period)
                    if list_tasks(world, split.guess, split.counts, sensor):
                        paths *= world.outcomes[sensor] ** (split.listing * world.period)
                self.assertEqual(count_paths(world, split), paths)

    def check_modes(self, source, world, split, facts):
        for mode in range(world.plant.modes):
            self.assertEqual(find_extra(world, split, mode), ratio_of(facts.extra(mode)))
            self.assertEqual(rest_half(world, split, mode), ratio_of(facts.rest_half(mode)))
            rest = facts.rest_half(mode)
            for half in (Fraction(source.randint(0, 90), source.randint(1, 9)), rest):
                for struck in (True, False):
                    told = next_half(world, split, mode, ratio_of(half), struck)
                    self.assertEqual(told, ratio_of(facts.next_half(mode, half, struck)))
                # An unstruck block leads from either side toward the rest half, never to it.
                behind = facts.next_half(mode, half, False)
                self.assertEqual((half > rest, half < rest), (behind > rest, behind < rest))
                self.assertTrue(abs(behind - rest) < abs(half - rest) or half == rest == behind)

    def test_lists_stay_and_are_not_kept(self):
        world = checked_world()
        splits = list(plan_splits(world))
        kept = list(splits)
        told = guess_halves(world, splits)
        told_bounds(world, splits)
        self.assertEqual(splits, kept)
        splits.clear()
        self.assertEqual(told, guess_halves(world, kept))
        counts = as_lists(kept[0].counts, False)
        find_cell(counts, 0, (1, 1), (0, 1))
        self.assertEqual(counts, as_lists(kept[0].counts, False))

    def test_long_blocks_in_time(self):
        plant = Plant([[(100003, 100000)] * 4, [(99991, 100000)] * 4, [(100019, 100000)] * 4], whole(1, 1, 1), whole(5, 5, 5))
        world = World(plant, [Sensor((0, 1, 2), Channel.clean(12, 4))] * 4, list(itertools.combinations(range(4), 1)))
        splits = []
        for place, lot in enumerate(world.lots):
            counts = [[1] * 4 for _ in range(3)]
            for mode in (0, 2):
                counts[mode][3 if lot != (3,) else 2] = 2
            splits.append(Split(lot, place < 3, 1, 8, 8, tuple(map(tuple, counts))))
        begun = time.time()
        self.check_halves(world, splits)
        self.assertLess(time.time() - begun, 3)

    def test_factors_of_many_figures_in_time(self):
        # 72 ticks of factors of 150 figures.
        bottom = 10 ** 150 + 7
        plant = Plant([[make_ratio(bottom + 2 * at + 1, bottom) for at in range(4)]] * 2, whole(1, 1), whole(5, 5))
        world = World(plant, [Sensor((0, 1), Channel.clean(12, 4))] * 4, list(itertools.combinations(range(4), 1)))
        splits = []
        for place, lot in enumerate(world.lots):
            row = tuple(2 if sensor == (2 if lot == (3,) else 3) else 1 for sensor in range(4))
            splits.append(Split(lot, place < 3, 1, 8, 8, (row, row)))
        begun = time.time()
        bounds = told_bounds(world, splits)
        self.assertLess(time.time() - begun, 3)
        self.assertEqual(len(bounds), 2)
