import random
import time
from fractions import Fraction

from farheld.boxes import volume_of
from farheld.channels import Channel
from farheld.clouds import first_cloud, greatest_row, next_cloud
from farheld.driving import drive_out, ticks_needed
from farheld.errors import BadBound, NoBar, TooLong
from farheld.fitting import still_program
from farheld.plants import Plant
from farheld.programs import Coder, Controller, Program
from farheld.ratios import ONE, make_ratio
from farheld.running import beyond, honest_words, first_pose, play_tick, run_fault, walk
from farheld.twins import twin_gap, twin_runs, twin_ticks
from farheld.verdicts import (
    RateBar, TrustBar, bar_fault, find_bar, find_rate_bar, find_trust_bar, list_least_bars, list_tellers, walk_rate_bars,
)
from farheld.worlds import Sensor, World
from tests.helpers import NO_RATIOS, HeldTest, clean_world, plain_plant, ring, whole
from tests.programs import some_plant_world, some_program


def least_volumes(world, bar, bound, ticks):
    """Return v(1), v(2), .. of [10.2] in fractions."""
    pushes = [Fraction(*world.plant.pushes[mode]) for mode in bar.modes]
    volume = Fraction(1)
    for push in pushes:
        volume *= 2 * push
    told = [volume]
    for tick in range(1, ticks):
        phase = tick % world.period
        volume *= 1 + pushes[0] / Fraction(*bound)
        for mode in bar.modes:
            volume *= abs(Fraction(*world.plant.factors[mode][phase]))
        for row, sensor in zip(bar.weights, list_tellers(world, bar.lot, bar.modes)):
            use = world.sensors[sensor].channel.table[phase]
            volume *= min(sum(Fraction(*row[phase][outcome]) for outcome in heard) for heard in use)
        told.append(volume)
    return told


def good_program(states=1):
    """Return a program for one mode of factor 2 that says the sign and steers by 1."""
    moves = [(0, (), [(0, ((1, 1), ()))]), (0, (), [(0, ((-1, 1), ()))])]
    coder = Coder(2, (0,), [(False, [(0, [((0, 1), ())])], [(0, None), (1, None)])])
    return Program(Controller((2,), 1, (), [((0,), moves)]), [coder])


def halving_program():
    """Return a program that keeps half of a cloud in each tick and steers it to the middle."""
    half = ((0, 1), ((0, (1, 1)),))
    moves = [(0, [(0, ((1, 1), ((0, (1, 1)),)))], [(0, half)]), (0, [(0, ((1, 1), ((0, (1, 1)),)))], [(0, ((0, 1), ((0, (-1, 1)),)))])]
    coder = Coder(2, (0,), [(False, [(0, [((0, 1), ())])], [(0, None), (1, None)])])
    return Program(Controller((2,), 1, [(0, 1)], [((0,), moves)]), [coder])


class NeededTest(HeldTest):
    def test_by_hand(self):
        world = clean_world((2, 1), 2, 1)
        bar = find_rate_bar(world)
        # v(t) is 2 * (1 + 1 / bound) ** (t - 1).
        self.assertEqual(ticks_needed(world, bar, (1, 2)), 1)
        self.assertEqual(ticks_needed(world, bar, (999, 1000)), 1)
        self.assertEqual(ticks_needed(world, bar, (1, 1)), 2)
        self.assertEqual(ticks_needed(world, bar, (2, 1)), 3)
        self.assertEqual(ticks_needed(world, bar, (3, 1)), 5)

    def test_drawn_bars(self):
        source = random.Random(102)
        sizes = set()
        for _ in range(300):
            world = some_plant_world(source, size=3)
            for bar in walk_rate_bars(world):
                bound = make_ratio(source.randint(1, 30), source.randint(1, 4))
                volumes = least_volumes(world, bar, bound, 60)
                due = [tick for tick, volume in enumerate(volumes, 1) if volume > (2 * Fraction(*bound)) ** len(bar.modes)]
                if due:
                    self.assertEqual(ticks_needed(world, bar, bound), due[0])
                    sizes.add((len(bar.modes), due[0]))
        self.assertTrue({many for many, _ in sizes} == {1, 2, 3} and len(sizes) > 30)

    def test_just_1000_ticks_and_more(self):
        world = World(plain_plant((1, 1)), ())
        bar = find_rate_bar(world)
        # Near bound 163.. of push 1 and a gain of exactly 1 a thousand ticks are needed.
        low, high = 1, 10 ** 6
        while high - low > 1:
            middle = (low + high) // 2
            volumes = 2 * (Fraction(1000 * middle + 1000, 1000 * middle)) ** 999
            low, high = (middle, high) if volumes > 2 * middle else (low, middle)
        self.assertLessEqual(ticks_needed(world, bar, (low, 1)), 1000)
        self.raises(TooLong, {"ticks": 1000}, ticks_needed, world, bar, (high, 1))
        self.raises(TooLong, {"ticks": 1000}, drive_out, world, still_program(world), bar, (high, 1))
        top = low * 10 ** 6
        while (2 * (Fraction(top + 10 ** 6, top)) ** 999) > Fraction(2 * top, 10 ** 6):
            top += 10 ** 4
        self.assertEqual(ticks_needed(world, bar, make_ratio(top - 10 ** 4, 10 ** 6)), 1000)
        self.raises(TooLong, {"ticks": 1000}, ticks_needed, world, bar, make_ratio(top, 10 ** 6))
        trust = find_trust_bar(world)
        for call in (ticks_needed, twin_ticks):
            self.assertEqual(call(world, trust, (999, 1)), 1000)
            self.assertEqual(call(world, trust, (9999, 10)), 1000)
            self.raises(TooLong, {"ticks": 1000}, call, world, trust, (1000, 1))
        self.raises(TooLong, {"ticks": 1000}, drive_out, world, still_program(world), trust, (1000, 1))

    def test_bars_that_are_none(self):
        world = clean_world((2, 1), 2, 3, ((0,), (1,), (2,)))
        self.assertIsNone(find_bar(world))
        weights = ((((1, 2), (1, 2)),),) * 2
        rate = ((RateBar((3,), (0,), weights), "lot"), (RateBar((0,), (1,), weights), "modes"), (RateBar((0,), (0,), None), "weights"), (RateBar((0,), (0,), weights), "rate"))
        trust = ((TrustBar(1, (0,), (1,)), "mode"), (TrustBar(True, (0,), (1,)), "mode"), (TrustBar(0, [0], (1,)), "lot"), (TrustBar(0, (0,), (1,)), "watcher"))
        program = still_program(world)
        for bar, what in rate + trust:
            self.assertEqual(bar_fault(world, bar), what)
            for bound in ((5, 1), None):
                self.raises(NoBar, {"what": what}, ticks_needed, world, bar, bound)
                self.raises(NoBar, {"what": what}, drive_out, world, program, bar, bound)
        for bar, what in trust:
            self.raises(NoBar, {"what": what}, twin_ticks, world, bar, None)

    def test_bounds_that_are_none(self):
        world = clean_world((2, 1), 2, 1)
        bars = list_least_bars(world.with_lots([[0]]))
        self.assertEqual([type(bar) for bar in bars], [RateBar, TrustBar])
        program = still_program(world)
        for thing in NO_RATIOS + ((0, 1), (-1, 2)):
            for bar in bars:
                self.raises(BadBound, {"bound": thing}, ticks_needed, world.with_lots([[0]]), bar, thing)
                self.raises(BadBound, {"bound": thing}, drive_out, world.with_lots([[0]]), program, bar, thing)
            self.raises(BadBound, {"bound": thing}, twin_ticks, world.with_lots([[0]]), bars[1], thing)


class DriveTest(HeldTest):
    def driven(self, world, program, bar, bound):
        run = drive_out(world, program, bar, bound)
        self.are_tuples((run.start, run.liars, run.ticks))
        self.assertIsNone(run_fault(world, program, run))
        self.assertIsNotNone(beyond(world, program, run, bound))
        self.assertEqual(run.start, whole(*[0] * world.plant.modes))
        self.assertLessEqual(len(run.ticks), ticks_needed(world, bar, bound))
        if isinstance(bar, RateBar):
            self.assertEqual(run.liars, bar.lot)
            for words, _, pushes in run.ticks:
                self.assertTrue(all(words[liar] == 0 for liar in bar.lot))
                self.assertTrue(all(push == (0, 1) for mode, push in enumerate(pushes) if mode not in bar.modes))
        else:
            self.assertEqual(len(run.ticks), twin_ticks(world, bar, bound))
            first, second = twin_runs(world, program, bar, len(run.ticks))
            self.assertEqual(run, second if beyond(world, program, first, bound) is None else first)
        return run

    def test_good_programs_are_driven_out(self):
        world = clean_world((2, 1), 2, 1)
        bar = find_rate_bar(world)
        lengths = []
        for program in (still_program(world), good_program(), halving_program()):
            lengths.append([len(self.driven(world, program, bar, bound).ticks) for bound in ((1, 2), (7, 1), (40, 1), (150, 1))])
        self.assertEqual([row[0] for row in lengths], [1, 1, 1])
        self.assertGreater(lengths[2][3], lengths[0][3])

    def test_drawn_worlds_and_programs(self):
        source = random.Random(104)
        told = {"rate": set(), "trust": 0, "one lot": 0, "liars": 0}
        for _ in range(250):
            world = some_plant_world(source, size=3)
            program = some_program(source, world)
            for bar in list_least_bars(world)[:4] + tuple(walk_rate_bars(world))[-1:]:
                bound = make_ratio(source.randint(1, 40), source.randint(1, 4))
                try:
                    if ticks_needed(world, bar, bound) > 60:
                        continue
                except TooLong:
                    continue
                self.driven(world, program, bar, bound)
                if isinstance(bar, RateBar):
                    told["rate"].add(bar.modes)
                    told["liars"] += len(bar.lot) > 0
                else:
                    told["trust"] += 1
                    told["one lot"] += bar.first == bar.second
        self.assertTrue({len(modes) for modes in told["rate"]} == {1, 2, 3}, told)
        self.assertTrue(told["trust"] > 100 and told["one lot"] > 20 and told["liars"] > 20, told)

    def test_clouds_have_the_least_volumes(self):
        source = random.Random(103)
        steps = 0
        for _ in range(120):
            world = some_plant_world(source, size=2)
            program = some_program(source, world)
            bar = find_rate_bar(world)
            if bar is None:
                continue
            bound = (30, 1)
            cloud = first_cloud(world, program, bar.modes, bar.lot)
            for volume in least_volumes(world, bar, bound, 5):
                ends = [abs(Fraction(*end)) for piece in cloud.pieces for side in piece.sides for end in side]
                self.assertGreaterEqual(Fraction(*volume_of(cloud.pieces)), volume)
                if max(ends) > 30 or len(cloud.pieces) > 100:
                    break
                steps += 1
                cloud = next_cloud(world, program, cloud, greatest_row(world, program, cloud))
        self.assertGreater(steps, 100)

    def test_long_drives_are_quick(self):
        begun = time.process_time()
        world = clean_world((2, 1), 2, 1)
        bar = find_rate_bar(world)
        run = self.driven(world, halving_program(), bar, (189, 1))
        self.assertGreater(len(run.ticks), 100)
        factor = make_ratio(2 * 10 ** 19 + 3, 10 ** 19)
        world = World(Plant([[factor], [factor]], whole(1, 1), whole(0, 0)), [Sensor((0, 1), Channel.clean(2))] * 3, [[0, 1], [2]])
        program = some_program(random.Random(3), world, states=2, registers=2)
        run = self.driven(world, program, find_trust_bar(world), (10 ** 290, 1))
        self.assertGreater(len(run.ticks), 900)
        self.assertLess(time.process_time() - begun, 6)


class TwinTest(HeldTest):
    def test_gaps(self):
        world = World(Plant([whole(2, -3)], [(1, 2)], whole(0)), ())
        bar = find_trust_bar(world)
        # In pushes: 1, then 3 + 1, then 8 + 1, ..
        self.assertEqual([twin_gap(world, bar, ticks) for ticks in range(5)], [(0, 1), (1, 1), (4, 1), (9, 1), (28, 1)])
        self.assertEqual([twin_ticks(world, bar, bound) for bound in ((1, 4), (1, 2), (199, 100), (2, 1), (9, 2), (13, 1), (14, 1))], [1, 2, 2, 3, 4, 4, 5])
        self.assertEqual(ticks_needed(world, bar, (9, 2)), 4)

    def test_a_gap_may_fall_within_a_period(self):
        world = World(Plant([[(1, 10), (10, 1)]], whole(1), whole(0)), ())
        bar = find_trust_bar(world)
        gaps = [Fraction(*twin_gap(world, bar, ticks)) for ticks in range(12)]
        self.assertLess(gaps[3], gaps[2])
        for bound in (Fraction(1, 2), Fraction(1), Fraction(10), Fraction(11), Fraction(30)):
            due = next(ticks for ticks, gap in enumerate(gaps) if gap > 2 * bound)
            self.assertEqual(twin_ticks(world, bar, (bound.numerator, bound.denominator)), due)

    def told(self, world, program, bar, ticks):
        """Assert all that [10.5] and [10.6] tell of twin runs."""
        runs = twin_runs(world, program, bar, ticks)
        self.assertIsInstance(runs, tuple)
        self.assertEqual([run.liars for run in runs], [bar.first, bar.second])
        for run in runs:
            self.are_tuples((run.start, run.liars, run.ticks))
            self.assertEqual((run.start, len(run.ticks)), (whole(*[0] * world.plant.modes), ticks))
            self.assertIsNone(run_fault(world, program, run))
        push = world.plant.pushes[bar.mode]
        poses = [first_pose(world, program, run.start) for run in runs]
        for one, other in zip(*[run.ticks for run in runs]):
            honest = [honest_words(program, pose) for pose in poses]
            self.assertEqual(one[1], other[1])
            for sensor, outcome in enumerate(one[1]):
                due = (honest[0][sensor], honest[1][sensor])
                if sensor in bar.first:
                    due = (honest[1][sensor],) * 2
                elif sensor in bar.second:
                    due = (honest[0][sensor],) * 2
                self.assertEqual((one[0][sensor], other[0][sensor]), due)
                self.assertEqual(outcome, world.sensors[sensor].channel.common(poses[0].tick, *due)[0])
            gap = Fraction(*poses[0].positions[bar.mode]) - Fraction(*poses[1].positions[bar.mode])
            gap *= Fraction(*world.plant.factors[bar.mode][poses[0].tick % world.period])
            sign = 1 if gap >= 0 else -1
            for tick, turn in ((one, sign), (other, -sign)):
                due = [(turn * push[0], push[1]) if mode == bar.mode else (0, 1) for mode in range(world.plant.modes)]
                self.assertEqual(tick[2], tuple(due))
            poses = [play_tick(world, program, pose, tick) for pose, tick in zip(poses, (one, other))]
        for mode, pair in enumerate(zip(*[pose.positions for pose in poses])):
            gap = abs(Fraction(*pair[0]) - Fraction(*pair[1]))
            self.assertEqual(gap, Fraction(*twin_gap(world, bar, ticks)) if mode == bar.mode else 0)

    def test_drawn_twins(self):
        source = random.Random(105)
        many = 0
        for _ in range(200):
            world = some_plant_world(source)
            program = some_program(source, world)
            for bar in [bar for bar in list_least_bars(world) if isinstance(bar, TrustBar)][:3]:
                self.told(world, program, bar, source.choice((0, 1, 7)))
                self.told(world, program, TrustBar(bar.mode, bar.second, bar.first), 5)
                many += 1
        self.assertGreater(many, 60)

    def test_a_lot_twice_and_a_sensor_in_both_lots(self):
        sensors = [Sensor((0, 1), Channel.clean(2)), Sensor((0,), Channel(3, [ring(3)])), Sensor((0,), Channel.clean(2)), Sensor((1,), Channel.clean(3))]
        world = World(plain_plant((2, 1), (-3, 2)), sensors, [[0, 2], [0, 3]])
        source = random.Random(1051)
        for bar in (TrustBar(0, (0, 2), (0, 2)), TrustBar(0, (0, 2), (0, 3)), TrustBar(0, (0, 3), (0, 2)), TrustBar(1, (0, 3), (0, 3))):
            self.assertIsNone(bar_fault(world, bar))
            for _ in range(10):
                self.told(world, some_program(source, world), bar, 8)

    def test_a_gap_of_0_pushes_the_first_run_up(self):
        world = World(Plant([whole(-2, 1)], whole(1), whole(0)), ())
        first, second = twin_runs(world, still_program(world), find_trust_bar(world), 3)
        # The gap is 2 ahead of a factor of 1, then 4 ahead of a factor of -2.
        self.assertEqual([tick[2] for tick in first.ticks], [whole(1), whole(1), whole(-1)])
        self.assertEqual([tick[2] for tick in second.ticks], [whole(-1), whole(-1), whole(1)])

    def test_the_second_run_is_told_if_the_first_stays_within(self):
        # The program steers by -9 once, so the first run falls back while the second is carried off.
        world = World(plain_plant((1, 1)), ())
        rows = [((), [(1, (), [(0, ((-9, 1), ()))])]), ((), [(1, (), [(0, ((0, 1), ()))])])]
        program = Program(Controller((), 1, (), rows), ())
        bar = find_trust_bar(world)
        run = drive_out(world, program, bar, (9, 1))
        self.assertEqual(run, twin_runs(world, program, bar, 10)[1])
        self.assertEqual(walk(world, program, run)[-1].positions, whole(-19))
        rows = [((), [(1, (), [(0, ((9, 1), ()))])]), ((), [(1, (), [(0, ((0, 1), ()))])])]
        program = Program(Controller((), 1, (), rows), ())
        self.assertEqual(drive_out(world, program, bar, (9, 1)), twin_runs(world, program, bar, 10)[0])
        self.assertEqual(ONE, world.plant.pushes[0])

    def test_no_ticks(self):
        world = clean_world((2, 1), 2, 2, ((0,), (1,)))
        bar = find_trust_bar(world)
        runs = twin_runs(world, still_program(world), bar, 0)
        self.assertEqual([(run.start, run.liars, run.ticks) for run in runs], [(whole(0), (0,), ()), (whole(0), (1,), ())])
