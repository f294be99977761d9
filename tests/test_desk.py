import random
import time

from farheld.blocks import block_ticks
from farheld.channels import Channel
from farheld.compiling import compile_world
from farheld.desk import Desk, Leg, retell_story
from farheld.errors import (
    BadDeed, BadLiars, BadStart, BadTick, Barred, HeldError, NoDeed, NoPlan, NoSensor, NotNow, TooLarge, TooNear,
)
from farheld.plants import Plant
from farheld.ratios import compare, make_ratio, size_of, times
from farheld.running import Run, run_fault, walk
from farheld.stories import Story
from farheld.verdicts import find_bar
from farheld.worlds import Sensor, World
from tests.compiled import some_kept_world
from tests.helpers import NO_SEQUENCES, NO_WHOLES, HeldTest, as_lists, clean_world, plain_plant, whole

NAMES = ("world", "positions", "liars", "pose", "legs", "deeds", "halves", "bounds")


def trusted_world(many=3, start=(0, 1), factor=(3, 2)):
    plant = plain_plant(factor, start=start)
    return World(plant, [Sensor((0,), Channel.clean(2))] * many, [(sensor,) for sensor in range(many)])


def seen(desk):
    """Return all that a desk tells of itself."""
    return [getattr(desk, name) for name in NAMES] + [desk.tell_story()]


def words_now(desk):
    """Return the honest words, by the compiled program of the leg in progress."""
    leg = desk.legs[-1]
    program = compile_world(leg.world, leg.blocks).program
    pose = desk.pose
    told = []
    for coder, memory in zip(program.coders, pose.memories):
        told.append(coder.say(pose.state, pose.registers, memory, pose.positions)[0])
    return told


class Ticker:
    """Draws ticks for a desk; programs are compiled once each."""

    def __init__(self, source):
        self.source, self.programs = source, {}

    def program_of(self, desk):
        leg = desk.legs[-1]
        for world, blocks, program in self.programs.get(len(desk.legs), []):
            if world == leg.world and blocks == leg.blocks:
                return program
        program = compile_world(leg.world, leg.blocks).program
        self.programs.setdefault(len(desk.legs), []).append((leg.world, leg.blocks, program))
        return program

    def tick(self, desk):
        source, pose, world = self.source, desk.pose, desk.world
        words = []
        for coder, memory in zip(self.program_of(desk).coders, pose.memories):
            words.append(coder.say(pose.state, pose.registers, memory, pose.positions)[0])
        lies = [source.randrange(world.sensors[liar].channel.words) for liar in desk.liars]
        for liar, lie in zip(desk.liars, lies):
            words[liar] = lie
        outcomes = [source.choice(sensor.channel.table[pose.tick % world.period][word]) for sensor, word in zip(world.sensors, words)]
        pushes = [times(push, (source.choice((-1, 1)), 1)) for push in world.plant.pushes]
        return ("tick", pushes, lies, outcomes)


class BeginTest(HeldTest):
    def test_a_new_desk(self):
        world = World(plain_plant((3, 2), (1, 2), start=(2, 1)), [Sensor((0, 1), Channel.clean(2))] * 3, [(0, 2), (1,)])
        start, liars = [(2, 1), (-1, 2)], [0, 2]
        desk = Desk(world, start, liars)
        self.assertEqual(seen(desk), [world, ((2, 1), (-1, 2)), (0, 2), None, (), (), whole(2, 2), None, Story(world, ((2, 1), (-1, 2)), (0, 2), ())])
        start.clear(), liars.clear()
        self.assertEqual((desk.positions, desk.liars), (((2, 1), (-1, 2)), (0, 2)))
        self.assertEqual(Desk(world, whole(0, 0)).liars, ())
        for name in NAMES:
            self.assertTrue(hasattr(desk, name))

    def test_wrong_starts_then_wrong_liars(self):
        world = World(plain_plant((3, 2), (1, 2), start=(2, 1)), [Sensor((0, 1), Channel.clean(2))] * 3, [(0, 2), (1,)])
        for start in NO_SEQUENCES + ((), whole(0), whole(0, 0, 0), ((0, 1), None), ([0, 1], (0, 1)), ((0, 1), (2, 4))):
            self.raises(BadStart, {"mode": 0}, Desk, world, start, None)
        self.raises(BadStart, {"mode": 0}, Desk, world, whole(3, 3), None)
        self.raises(BadStart, {"mode": 1}, Desk, world, whole(2, -3), None)
        for liars in NO_SEQUENCES + ((3,), (-1,), (2, 0), (0, 0), (0, 1), (0, 1, 2), (True,), ("0",), (None,)):
            self.raises(BadLiars, {}, Desk, world, whole(0, 0), liars)
        for liars in ((), (0,), (2,), [0, 2], (1,)):
            self.assertEqual(Desk(world, whole(0, 0), liars).liars, tuple(liars))
        self.raises(BadLiars, {}, Desk, world.with_lots(()), whole(0, 0), (0,))

    def test_equality(self):
        world = trusted_world()
        desk = Desk(world, whole(0), (1,))
        self.assertTrue(desk == Desk(trusted_world(), [(0, 1)], [1]))
        self.assertFalse(desk != Desk(world, whole(0), (1,)))
        for other in (Desk(trusted_world(4), whole(0), (1,)), Desk(world, whole(0), (2,)), Desk(world, whole(0)), None, desk.tell_story()):
            self.assertTrue(desk != other)
            self.assertFalse(desk == other)
        one, two = Desk(trusted_world(start=(1, 1)), whole(0)), Desk(trusted_world(start=(1, 1)), whole(1))
        self.assertTrue(one != two)
        other = Desk(world, whole(0), (1,))
        desk.take_deed(("plan", 8))
        self.assertTrue(desk != other)
        other.take_deed(["plan", 8])
        self.assertTrue(desk == other)
        other.take_deed(("back",))
        other.take_deed(("plan", 7))
        self.assertTrue(desk != other)

    def test_results(self):
        for kind, parts in ((Leg, (1, 2, [3])), (Story, (1, [2], [3], [4]))):
            told = kind(*parts)
            self.assertTrue(told == kind(*parts))
            self.assertFalse(told != kind(*parts))
            for at in range(len(parts)):
                other = kind(*[None if place == at else worth for place, worth in enumerate(parts)])
                self.assertTrue(told != other)
                self.assertFalse(told == other)
            self.assertFalse(told == parts)
            self.assertIs(list(vars(told).values())[-1], parts[-1])


class DeedTest(HeldTest):
    def refuses(self, desk, error, attributes, deed):
        """Assert that a deed raises and leaves the desk as it was."""
        ahead = seen(desk)
        self.raises(error, attributes, desk.take_deed, deed)
        self.assertEqual(seen(desk), ahead)

    def test_what_is_no_deed(self):
        desk = Desk(trusted_world(), whole(0))
        for under_way in (False, True):
            for deed in NO_SEQUENCES + ((), [], ("plan",), ("plan", 1, 2), ("tick",), ("tick", 1, 2), ("tick", 1, 2, 3, 4), ("silent",), ("silent", 0, 0), ("world",), ("world", 1, 2),
                                        ("back", 1), ["back", None], ("go",), ("", 1), (None, 1), (3,), (["plan"], 1), (("plan",), 8), ({}, 1), ("Plan", 8), (True, 1), "plan", ("plan ", 8)):
                self.refuses(desk, BadDeed, {"what": "deed"}, deed)
            if not under_way:
                desk.take_deed(("plan", 8))
                desk.take_deed(Ticker(random.Random(1)).tick(desk))

    def test_plans(self):
        world = trusted_world()
        desk = Desk(world, whole(0), (2,))
        for blocks in NO_WHOLES + (0, 9, -1, 100):
            self.refuses(desk, BadDeed, {"what": "blocks"}, ("plan", blocks))
        self.refuses(desk, TooNear, {"tried": 1}, ("plan", 1))
        for blocks in (8, 2):
            compiled = compile_world(world, blocks)
            told = desk.take_deed(["plan", blocks])
            self.assertEqual(told, compiled.bounds)
            self.assertEqual((desk.world, desk.positions, desk.bounds, desk.halves), (world, whole(0), compiled.bounds, whole(0)))
            self.assertEqual(desk.legs[-1], Leg(world, blocks, Run(whole(0), (2,), ())))
            self.assertEqual((desk.pose.tick, desk.pose.positions), (0, whole(0)))
        self.assertEqual((len(desk.legs), desk.deeds), (2, (("plan", 8), ("plan", 2))))

    def test_plans_that_cannot_be_made(self):
        barred = clean_world((2, 1), 2, 1)
        self.refuses(Desk(barred, whole(0)), Barred, {"bar": find_bar(barred)}, ("plan", 8))
        near = clean_world((3999, 1000), 2, 3, [(0,), (1,), (2,)])
        self.refuses(Desk(near, whole(0)), TooNear, {"tried": 8}, ("plan", 8))
        large = World(plain_plant((300, 1)), [Sensor((0,), Channel.clean(12))] * 3)
        self.refuses(Desk(large, whole(0)), TooLarge, {}, ("plan", 8))

    def test_ticks(self):
        desk = Desk(trusted_world(), whole(0), (1,))
        for thing in (("tick", None, None, None), ("tick", whole(0), (0,), (0, 0, 0))):
            self.refuses(desk, NoPlan, {}, thing)
        desk.take_deed(("plan", 8))
        words = words_now(desk)
        words[1] = 1
        good = ("tick", [(1, 2)], [1], list(words))
        for lies in NO_SEQUENCES + ((), (0, 0), (2,), (-1,), (True,), (None,), ("1",)):
            self.refuses(desk, BadTick, {"what": "words"}, ("tick", None, lies, None))
        for outcomes in NO_SEQUENCES + ((), words[:2], words + [0], [1 - words[0]] + words[1:], words[:1] + [0] + words[2:], [None] * 3, words[:2] + [True], words[:2] + [2]):
            self.refuses(desk, BadTick, {"what": "outcomes"}, ("tick", None, [1], outcomes))
        for pushes in NO_SEQUENCES + ((), whole(0, 0), whole(2), ((-3, 2),), ([0, 1],), (None,), (1,), ((2, 2),)):
            self.refuses(desk, BadTick, {"what": "pushes"}, ("tick", pushes, (1,), words))
        self.assertEqual(desk.take_deed(good), ((1, 2),))
        self.assertEqual((desk.positions, desk.pose.positions, desk.pose.tick), (((1, 2),), ((1, 2),), 1))
        self.assertEqual(desk.deeds[-1], ("tick", ((1, 2),), (1,), tuple(words)))
        self.assertEqual(desk.legs[-1].run, Run(whole(0), (1,), ((tuple(words), tuple(words), ((1, 2),)),)))
        self.are_tuples((desk.positions, desk.deeds, desk.legs, desk.legs[-1].run.ticks))
        self.assertIsNone(desk.halves)

    def test_deeds_that_wait_for_a_begin(self):
        source = random.Random(2)
        desk, ticker = Desk(trusted_world(), whole(0), (0,)), Ticker(source)
        desk.take_deed(("plan", 8))
        compiled = compile_world(desk.world, 8)
        begun = 0
        for _ in range(12):
            desk.take_deed(ticker.tick(desk))
            place, tick, _ = compiled.find_place(desk.pose.state)
            if tick > 0:
                self.assertIsNone(desk.halves)
                for deed in (("plan", 8), ("plan", None), ("silent", 0), ("silent", 9), ("world", desk.world), ("world", None)):
                    self.refuses(desk, NotNow, {}, deed)
            else:
                begun += 1
                self.assertEqual(desk.halves, compiled.halves_at(compiled.block_state(place), desk.pose.registers))
                self.refuses(desk, BadDeed, {"what": "blocks"}, ("plan", 0))
                for sensor in NO_WHOLES + (3, -1):
                    self.refuses(desk, NoSensor, {"sensor": sensor}, ("silent", sensor))
        self.assertGreater(begun, 2)

    def test_silences(self):
        source = random.Random(3)
        desk, ticker = Desk(trusted_world(4), whole(0), (3,)), Ticker(source)
        desk.take_deed(("plan", 8))
        for _ in range(block_ticks(desk.world, compile_world(desk.world).splits[0]) * 2):
            desk.take_deed(ticker.tick(desk))
        halves, positions = desk.halves, desk.positions
        while halves is None:
            desk.take_deed(ticker.tick(desk))
            halves, positions = desk.halves, desk.positions
        told = desk.take_deed(["silent", 1])
        self.assertIsNone(told)
        due = trusted_world(4).silenced(1).with_plant(plain_plant((3, 2), start=halves[0]))
        self.assertEqual((desk.world, desk.positions, desk.pose, desk.bounds, desk.halves), (due, positions, None, None, halves))
        self.assertEqual(len(desk.legs), 1)
        self.refuses(desk, NoPlan, {}, ("tick", whole(0), (0,), (0, 0, 0, 0)))
        # The next leg begins where the plant is; a second silence leaves too few to trust.
        desk.take_deed(("plan", 8))
        self.assertEqual(desk.legs[1].run.start, positions)
        self.assertEqual(desk.legs[1].world, due)
        bar = desk.take_deed(("silent", 0))
        self.assertEqual(bar, find_bar(due.silenced(0)))
        self.assertIsNotNone(bar)
        self.refuses(desk, Barred, {"bar": bar}, ("plan", 8))
        self.assertEqual(desk.deeds[-1], ("silent", 0))

    def test_other_worlds(self):
        desk = Desk(trusted_world(), whole(0), (1,))
        others = [None, 3, "world", (), plain_plant((3, 2)), trusted_world(4), trusted_world(2), World(plain_plant((3, 2), (1, 2)), trusted_world().sensors, [(1,)])]
        for other in others:
            self.refuses(desk, BadDeed, {"what": "world"}, ("world", other))
        for lots in ((), [(0,)], [(0, 2)]):
            self.refuses(desk, BadDeed, {"what": "liars"}, ("world", trusted_world().with_lots(lots)))
        # The period and the channels may be others; the starts are the halves.
        plant = Plant([[(2, 1), (1, 1)]], [(3, 1)], [(77, 1)])
        other = World(plant, [Sensor((0,), Channel.clean(3, 2))] * 3, [(0, 1)])
        self.assertIsNone(desk.take_deed(["world", other]))
        self.assertEqual(desk.world, other.with_plant(Plant([[(2, 1), (1, 1)]], [(3, 1)], [(0, 1)])))
        self.assertEqual((desk.pose, desk.bounds, desk.halves, desk.deeds), (None, None, whole(0), (("world", other),)))
        self.assertIs(desk.deeds[0][1], other)
        self.assertEqual(desk.take_deed(("world", trusted_world(3, (5, 1), (5, 1)))), find_bar(trusted_world(3, (0, 1), (5, 1))))
        nobody = Desk(trusted_world(), whole(0))
        self.assertIsNone(nobody.take_deed(("world", trusted_world().with_lots(()))))

    def test_back(self):
        source = random.Random(4)
        desk, ticker = Desk(trusted_world(4), whole(0), (2,)), Ticker(source)
        self.refuses(desk, NoDeed, {}, ("back",))
        standings, deeds = [], []
        for deed in ("plan", "tick", "tick", "tick", "tick", "silent", "plan", "tick", "plan", "world", "silent", "world"):
            told = {"plan": ("plan", 8), "silent": ("silent", len(deeds) % 4), "world": ("world", trusted_world(4, (3, 1)))}
            while deed in ("plan", "silent", "world") and desk.halves is None:
                standings.append(seen(desk))
                deeds.append(ticker.tick(desk))
                desk.take_deed(deeds[-1])
            standings.append(seen(desk))
            deeds.append(ticker.tick(desk) if deed == "tick" else told[deed])
            desk.take_deed(deeds[-1])
        self.assertEqual(len(desk.deeds), len(deeds))
        while standings:
            due = desk.deeds[-1]
            self.assertIs(desk.take_deed(["back"]), due)
            self.assertEqual(seen(desk), standings.pop())
        self.refuses(desk, NoDeed, {}, ("back",))
        self.assertEqual(seen(desk), seen(Desk(trusted_world(4), whole(0), (2,))))

    def test_back_and_forth(self):
        desk, ticker = Desk(trusted_world(), whole(0)), Ticker(random.Random(5))
        desk.take_deed(("plan", 8))
        for _ in range(6):
            desk.take_deed(ticker.tick(desk))
            desk.take_deed(ticker.tick(desk))
            desk.take_deed(("back",))
        self.assertEqual((len(desk.deeds), len(desk.legs[0].run.ticks)), (7, 6))
        program = compile_world(desk.world).program
        self.assertEqual(walk(desk.world, program, desk.legs[0].run)[-1], desk.pose)

    def test_lists_that_are_passed_in(self):
        desk, ticker = Desk(trusted_world(), whole(0), (0,)), Ticker(random.Random(6))
        plan = ["plan", 8]
        desk.take_deed(plan)
        tick = [as_lists(part) for part in ticker.tick(desk)]
        kept = as_lists(tick)
        desk.take_deed(tick)
        self.assertEqual((plan, tick), (["plan", 8], kept))
        ahead = seen(desk)
        plan.clear(), tick[1].clear(), tick[2].clear(), tick[3].clear(), tick.clear()
        self.assertEqual(seen(desk), ahead)


class TrialTest(HeldTest):
    def test_trials(self):
        desk, ticker = Desk(trusted_world(), whole(0), (1,)), Ticker(random.Random(7))
        desk.take_deed(("plan", 8))
        for _ in range(3):
            desk.take_deed(ticker.tick(desk))
        ahead = seen(desk)

        def play(one):
            self.assertIs(one, desk)
            for _ in range(4):
                one.take_deed(ticker.tick(one))
            return one.positions

        told = desk.tried(play)
        self.assertEqual(seen(desk), ahead)
        self.assertNotEqual(told, desk.positions)
        self.assertIsNone(desk.tried(lambda one: None))

        def go_back(one):
            for _ in range(4):
                one.take_deed(("back",))
            one.take_deed(("silent", 1))
            one.take_deed(("back",))
            return seen(one)

        self.assertEqual(desk.tried(go_back), seen(Desk(trusted_world(), whole(0), (1,))))
        self.assertEqual(seen(desk), ahead)
        for _ in range(4):
            desk.take_deed(("back",))
        self.assertEqual(seen(desk), seen(Desk(trusted_world(), whole(0), (1,))))

    def test_trials_that_raise(self):
        desk = Desk(trusted_world(), whole(0), (1,))
        ahead = seen(desk)

        def plan_twice(one):
            one.take_deed(("plan", 8))
            one.take_deed(("plan", 9))

        self.raises(BadDeed, {"what": "blocks"}, desk.tried, plan_twice)
        self.assertEqual(seen(desk), ahead)

        def fail(one):
            one.take_deed(("plan", 8))
            raise KeyError("own")

        with self.assertRaises(KeyError):
            desk.tried(fail)
        self.assertEqual(seen(desk), ahead)

    def test_trials_within_trials(self):
        desk, ticker = Desk(trusted_world(), whole(0), (1,)), Ticker(random.Random(8))
        ahead = seen(desk)

        def outer(one):
            one.take_deed(("plan", 8))
            middle = seen(one)
            one.tried(lambda other: other.take_deed(ticker.tick(other)))
            self.assertEqual(seen(one), middle)
            self.raises(NoDeed, {}, one.tried, lambda other: [other.take_deed(("back",)) for _ in range(2)])
            self.assertEqual(seen(one), middle)
            return len(one.deeds)

        self.assertEqual(desk.tried(outer), 1)
        self.assertEqual(seen(desk), ahead)


class StoryTest(HeldTest):
    def some_deed(self, source, desk, ticker):
        """Return any deed that the desk may take, or may refuse."""
        kinds = ["plan", "silent", "world", "back"] if desk.pose is None else ["tick"] * 12 + ["plan", "silent", "world", "back"]
        kind = source.choice(kinds)
        if kind == "tick":
            return ticker.tick(desk)
        if kind == "plan":
            return ("plan", source.randint(1, 8))
        if kind == "silent":
            return ("silent", source.randrange(len(desk.world.sensors)))
        return ("world", desk.tell_story().world) if kind == "world" else ("back",)

    def check_standing(self, desk):
        """Check [16.7], and that each leg's run is one of its compiled program."""
        for position, half in zip(desk.positions, desk.halves or ()):
            self.assertLessEqual(compare(size_of(position), half), 0)
        for position, bound in zip(desk.positions, desk.bounds or ()):
            self.assertLessEqual(compare(size_of(position), bound), 0)
        self.assertEqual(desk.pose is None, desk.bounds is None)
        if desk.pose is not None:
            self.assertEqual(desk.pose.positions, desk.positions)
            self.assertEqual(desk.pose.tick, len(desk.legs[-1].run.ticks))

    def test_drawn_rows_of_deeds(self):
        source = random.Random(9)
        legs = 0
        for _ in range(25):
            world = some_kept_world(source)
            lot = source.choice(world.lots)
            liars = tuple(sorted(source.sample(lot, source.randint(0, len(lot)))))
            start = [times(one, make_ratio(source.choice((-1, 0, 1)), 1)) for one in world.plant.starts]
            desk, ticker = Desk(world, start, liars), Ticker(source)
            for _ in range(40):
                try:
                    desk.take_deed(self.some_deed(source, desk, ticker))
                except HeldError:
                    continue
                self.check_standing(desk)
            for leg in desk.legs:
                self.assertIsNone(run_fault(leg.world, compile_world(leg.world, leg.blocks).program, leg.run))
            legs += len(desk.legs)
            story = desk.tell_story()
            self.assertEqual(story, Story(world, tuple(start), liars, desk.deeds))
            self.are_tuples((story.start, story.liars, story.deeds))
            again = retell_story(story)
            self.assertTrue(again == desk)
            self.assertEqual(seen(again), seen(desk))
        self.assertGreater(legs, 25)

    def test_stories_that_cannot_be_told(self):
        world = trusted_world()
        self.assertEqual(retell_story(Story(world, [(0, 1)], [1], [["plan", 8]])), retell_story(Story(world, whole(0), (1,), (("plan", 8),))))
        for story, error, attributes in (
            (Story(world, whole(1), (), ()), BadStart, {"mode": 0}), (Story(world, whole(0), (0, 1), ()), BadLiars, {}),
            (Story(world, whole(0), (), (("back",),)), BadDeed, {"what": "deed"}), (Story(world, whole(0), (), (("plan", 8), ("back",))), BadDeed, {"what": "deed"}),
            (Story(world, whole(0), (), (["back"],)), BadDeed, {"what": "deed"}), (Story(world, whole(0), (), (None,)), BadDeed, {"what": "deed"}),
            (Story(world, whole(0), (), ((),)), BadDeed, {"what": "deed"}), (Story(world, whole(0), (), (("plan", 0),)), BadDeed, {"what": "blocks"}),
            (Story(world, whole(0), (), (("plan", 1),)), TooNear, {"tried": 1}), (Story(world, whole(0), (), (("silent", 3),)), NoSensor, {"sensor": 3}),
            (Story(world, whole(0), (), (("tick", (), (), ()),)), NoPlan, {}),
        ):
            self.raises(error, attributes, retell_story, story)

    def test_long_stories_in_time(self):
        desk, ticker = Desk(trusted_world(), whole(0), (1,)), Ticker(random.Random(10))
        begun = time.time()
        desk.take_deed(("plan", 8))
        for _ in range(1000):
            desk.take_deed(ticker.tick(desk))
        self.check_standing(desk)
        story = desk.tell_story()
        self.assertTrue(retell_story(story) == desk)
        for _ in range(1001):
            desk.take_deed(("back",))
        self.assertEqual(desk.deeds, ())
        self.assertLess(time.time() - begun, 6)
