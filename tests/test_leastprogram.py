import itertools
import random
import time

from farheld.errors import BadLate, NoLeast, NotLink, TooWide
from farheld.fitting import delay_program, fit_fault
from farheld.leastbound import find_least, link_numbers
from farheld.leastprogram import least_program
from farheld.ratios import compare, negative, times
from farheld.running import Run, first_pose, greatest_sizes, play_tick, run_fault
from tests.helpers import HeldTest, clean_use, clean_world
from tests.test_leastbound import link, some_link


def counted(world, late):
    """Return the numbers of memories and of thresholds, counted as [13.5] says."""
    numbers = link_numbers(world)
    memories = set()
    for tick in range(20):
        ahead = [range(numbers[at % len(numbers)]) for at in range(tick - min(late, tick), tick)]
        memories.update((tick % len(numbers), cells) for cells in itertools.product(*ahead))
    return (len(memories), sum(numbers[phase] - 1 for phase, _ in memories))


def outer_run(source, world, program, ticks):
    """Return a run that is pushed outward with whole pushes."""
    start, push = world.plant.starts[0], world.plant.pushes[0]
    pose = first_pose(world, program, [source.choice((start, negative(start), (0, 1)))])
    begun, side, played = pose.positions, source.choice((1, -1)), []
    style = source.choice(("out", "same", "any"))
    for tick in range(ticks):
        reply = program.coders[0].say(pose.state, pose.registers, pose.memories[0], pose.positions)
        outcome = world.sensors[0].channel.table[tick % world.period][reply[0]][0]
        factor = world.plant.factors[0][tick % world.period][0]
        if style == "out":
            side = 1 if pose.positions[0][0] * factor > 0 else -1
        elif style == "any":
            side = source.choice((-1, 0, 1))
        elif factor < 0:
            side = -side
        played.append(((reply[0],), (outcome,), (times(push, (side, 1)),)))
        pose = play_tick(world, program, pose, played[-1])
    return Run(begun, (), tuple(played))


class LeastProgramTest(HeldTest):
    def check_program(self, source, world, late, runs=4, ticks=25):
        least, program = find_least(world, late), least_program(world, late)
        try:
            delayed = delay_program(program, late)
        except BadLate:
            return None
        self.assertIsNone(fit_fault(world, program))
        self.assertIsNone(fit_fault(world, delayed))
        sizes = []
        for _ in range(runs):
            run = outer_run(source, world, delayed, ticks)
            self.assertIsNone(run_fault(world, delayed, run))
            sizes.append(greatest_sizes(world, delayed, run)[0])
            self.assertLessEqual(compare(sizes[-1], least.bound), 0)
        return sizes

    def test_drawn_links(self):
        source = random.Random(1)
        told = {}
        for _ in range(260):
            world, late = some_link(source), source.randint(0, 3)
            if find_least(world, late) is None:
                self.raises(NoLeast, {}, least_program, world, late)
                continue
            memories, thresholds = counted(world, late)
            if memories > 1000 or thresholds > 100 or memories * (thresholds + 1) > 10000:
                self.raises(TooWide, {"late": late}, least_program, world, late)
                continue
            self.check_program(source, world, late)
            told[late] = told.get(late, 0) + 1
        self.assertEqual(len(told), 4)

    def test_the_told_bound_is_kept_and_nearly_met(self):
        source = random.Random(2)
        for factor in ((3, 2), (-3, 2), (1, 2)):
            for late in range(4):
                for start in ((0, 1), (3, 1), (9, 1)):
                    world = link([factor], [clean_use(2)], (1, 1), start)
                    sizes = self.check_program(source, world, late, 12, 40)
                    # Runs that are pushed outward come near to the bound.
                    best = max(top * 100 // bottom for top, bottom in sizes)
                    top, bottom = find_least(world, late).bound
                    self.assertGreater(best, top * 60 // bottom)

    def test_words_are_the_least_of_an_outcome(self):
        world = link([(3, 2)], [((4,), (4,), (1,), (4,))])
        program = least_program(world)
        self.assertEqual({program.coders[0].say(0, (), 0, [(at, 1)])[0] for at in range(-5, 6)}, {0, 2})
        self.check_program(random.Random(3), world, 2)

    def test_one_outcome_alone(self):
        source = random.Random(4)
        for late in range(4):
            self.check_program(source, link([(1, 2), (-3, 2)], [((3,), (3,)), ((0,), (0,))], (1, 1), (7, 1)), late)

    def test_each_side_of_too_wide(self):
        source = random.Random(5)
        for late, words, is_wide in (
            (0, 12, False), (1, 10, False), (1, 11, True), (2, 4, False), (2, 5, True), (3, 3, False), (3, 4, True),
        ):
            world = link([(1, 2)], [clean_use(words)])
            self.check_width(source, world, late, is_wide)

    def check_width(self, source, world, late, is_wide):
        memories, thresholds = counted(world, late)
        self.assertEqual(memories > 1000 or thresholds > 100 or memories * (thresholds + 1) > 10000, is_wide)
        if is_wide:
            self.raises(TooWide, {"late": late}, least_program, world, late)
        else:
            program = least_program(world, late)
            self.assertEqual(program.coders[0].memories, memories)
            self.check_program(source, world, late)

    def test_all_small_widths(self):
        # Numbers of up to four phases, so that each limit is met, also exactly.
        source = random.Random(6)
        exact = set()
        for period in range(1, 5):
            for numbers in itertools.product((1, 2, 3, 5, 10, 12), repeat=period):
                for late in range(4):
                    if period > 2 and source.random() < 0.8:
                        continue
                    uses = [[(min(word, number - 1),) for word in range(12)] for number in numbers]
                    world = link([(1, 13)] * period, uses)
                    memories, thresholds = counted(world, late)
                    exact.update({(thresholds - 100, "t"), (memories - 1000, "m")})
                    is_wide = memories > 1000 or thresholds > 100 or memories * (thresholds + 1) > 10000
                    if is_wide:
                        self.raises(TooWide, {"late": late}, least_program, world, late)
                    elif source.random() < 0.1:
                        self.check_width(source, world, late, False)
                    else:
                        least_program(world, late)

    def test_exactly_at_the_limits(self):
        source = random.Random(7)
        found = {}
        for period in range(1, 5):
            for numbers in itertools.product(range(1, 13), repeat=period):
                for late in range(1, 4):
                    if period == 4 and late < 3 or period == 3 and late == 2:
                        continue
                    memories = thresholds = 0
                    ticks = [(tick, tick) for tick in range(late)] + [(phase + 12, late) for phase in range(period)]
                    for tick, back in ticks:
                        many = 1
                        for at in range(tick - back, tick):
                            many *= numbers[at % period]
                        memories += many
                        thresholds += many * (numbers[tick % period] - 1)
                    for name, worth, most in (("memories", memories, 1000), ("thresholds", thresholds, 100), ("both", memories * (thresholds + 1), 10000)):
                        others = (memories <= 1000 or name == "memories") and (thresholds <= 100 or name == "thresholds")
                        others = others and (memories * (thresholds + 1) <= 10000 or name == "both")
                        if others and worth in (most, most + 1):
                            found.setdefault((name, worth - most), (numbers, late))
        self.assertIn(("thresholds", 0), found)
        for (name, above), (numbers, late) in found.items():
            uses = [[(min(word, number - 1),) for word in range(12)] for number in numbers]
            self.check_width(source, link([(1, 13)] * len(numbers), uses), late, above > 0)

    def test_errors_in_order(self):
        rising, kept = clean_world((2, 1), 2, 1), clean_world((3, 2), 2, 1)
        for late in (-1, 4, None, True, False, "0", (0, 1)):
            self.raises(NotLink, {"what": "sensor"}, least_program, clean_world((2, 1), 2, 2), late)
            self.raises(BadLate, {"late": late}, least_program, rising, late)
            self.raises(BadLate, {"late": late}, least_program, kept, late)
        self.raises(NoLeast, {}, least_program, rising)
        self.raises(NoLeast, {}, least_program, link([(12, 1)], [clean_use(12)]), 3)
        self.raises(TooWide, {"late": 3}, least_program, link([(11, 1)], [clean_use(12)]), late=3)
        self.assertEqual(least_program(kept), least_program(kept, 0))

    def test_wide_programs_in_time(self):
        begun = time.time()
        for world, late in ((link([(9, 1)], [clean_use(10)]), 1), (link([(2, 1)] * 4, [clean_use(3)] * 4), 2), (link([(5, 2)], [clean_use(3)], start=(50, 1)), 3)):
            try:
                self.check_program(random.Random(8), world, late, 2, 200)
            except TooWide:
                pass
        self.assertLess(time.time() - begun, 5)
