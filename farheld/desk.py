"""Desks: they keep a plant through changes of program, channels and world."""

from farheld.compiling import compile_world
from farheld.errors import BadDeed, BadLiars, BadTick, NoDeed, NoPlan, NotNow
from farheld.lots import lies_within
from farheld.plants import Plant
from farheld.ratios import is_whole
from farheld.running import Run, are_liars, are_words, check_start, first_pose, play_tick, replies_at
from farheld.sequences import is_sequence
from farheld.splits import MOST_PERIODS
from farheld.stories import Story
from farheld.verdicts import find_bar
from farheld.worlds import World

# How many things a deed has, by its word.
SIZES = {"plan": 2, "tick": 4, "silent": 2, "world": 2, "back": 1}


class Leg:
    """A time with one program: what it was compiled of, and its run so far."""

    def __init__(self, world, blocks, run):
        self.world = world
        self.blocks = blocks
        self.run = run

    def __eq__(self, other):
        if not isinstance(other, Leg):
            return False
        return self.world == other.world and self.blocks == other.blocks and self.run == other.run


class Standing:
    """How a desk stands; legs are None where they are those of the next standing without its last tick."""

    def __init__(self, world, positions, pose, compiled, legs):
        self.world = world
        self.positions = positions
        self.pose = pose
        self.compiled = compiled
        self.legs = legs


class Desk:
    """A plant under way, or waiting for a program; deeds change it, and the last one can be taken back."""

    def __init__(self, world, start, liars=()):
        check_start(world, start)
        if not are_liars(world, liars):
            raise BadLiars()
        self._first_world = world
        self._first_start = tuple(start)
        self.liars = tuple(liars)
        self.deeds = ()
        self._past = ()
        self._stand(Standing(world, self._first_start, None, None, ()))

    def __eq__(self, other):
        if not isinstance(other, Desk):
            return False
        if self._first_world != other._first_world or self._first_start != other._first_start:
            return False
        return self.liars == other.liars and self.deeds == other.deeds

    def take_deed(self, deed):
        """Make a deed and return what it tells."""
        if not is_sequence(deed, 1) or not isinstance(deed[0], str) or SIZES.get(deed[0], 0) != len(deed):
            raise BadDeed("deed")
        word = deed[0]
        if word == "back":
            return self._take_back()
        if word == "tick":
            return self._take_tick(deed[1], deed[2], deed[3])
        if word == "plan":
            return self._take_plan(deed[1])
        changed = self._silenced_world(deed[1]) if word == "silent" else self._other_world(deed[1])
        self._do((word, deed[1]), Standing(changed, self.positions, None, None, self.legs))
        return find_bar(changed)

    def tell_story(self):
        """Return what the desk began with, and the deeds that stand."""
        return Story(self._first_world, self._first_start, self.liars, self.deeds)

    def tried(self, call):
        """Call a function with the desk, and leave the desk as it was ahead of the call."""
        world, positions, pose, legs = self.world, self.positions, self.pose, self.legs
        deeds, halves, bounds = self.deeds, self.halves, self.bounds
        compiled, past = self._compiled, self._past
        try:
            return call(self)
        finally:
            self.world, self.positions, self.pose, self.legs = world, positions, pose, legs
            self.deeds, self.halves, self.bounds = deeds, halves, bounds
            self._compiled, self._past = compiled, past

    def _stand(self, standing):
        """Let the desk stand so."""
        compiled, pose = standing.compiled, standing.pose
        self.world = standing.world
        self.positions = standing.positions
        self.pose = pose
        self.legs = standing.legs
        self._compiled = compiled
        self.halves = standing.world.plant.starts
        self.bounds = None
        if compiled is not None:
            self.halves = compiled.halves_at(pose.state, pose.registers)
            self.bounds = compiled.bounds

    def _do(self, deed, standing):
        """Let the desk stand so behind a deed."""
        # A tick is taken back from the run, so the runs of all ticks need not be kept.
        legs = None if deed[0] == "tick" else self.legs
        self._past = self._past + (Standing(self.world, self.positions, self.pose, self._compiled, legs),)
        self.deeds = self.deeds + (deed,)
        self._stand(standing)

    def _take_back(self):
        if not self.deeds:
            raise NoDeed()
        deed = self.deeds[-1]
        old = self._past[-1]
        legs = _without_last_tick(self.legs) if old.legs is None else old.legs
        self.deeds = self.deeds[:-1]
        self._past = self._past[:-1]
        self._stand(Standing(old.world, old.positions, old.pose, old.compiled, legs))
        return deed

    def _take_plan(self, blocks):
        halves = self._halves_now()
        if not is_whole(blocks, 1, MOST_PERIODS):
            raise BadDeed("blocks")
        world = _with_starts(self.world, halves)
        compiled = compile_world(world, blocks)
        pose = first_pose(world, compiled.program, self.positions)
        leg = Leg(world, blocks, Run(self.positions, self.liars, ()))
        self._do(("plan", blocks), Standing(world, self.positions, pose, compiled, self.legs + (leg,)))
        return compiled.bounds

    def _take_tick(self, pushes, lies, outcomes):
        if self.pose is None:
            raise NoPlan()
        program = self._compiled.program
        if not are_words(lies, [self.world.sensors[liar].channel.words for liar in self.liars]):
            raise BadTick("words")
        words = [word for word, _ in replies_at(program, self.pose)]
        for liar, lie in zip(self.liars, lies):
            words[liar] = lie
        pose = play_tick(self.world, program, self.pose, (tuple(words), outcomes, pushes))
        tick = (tuple(words), tuple(outcomes), tuple(pushes))
        legs = _with_tick(self.legs, tick)
        deed = ("tick", tuple(pushes), tuple(lies), tuple(outcomes))
        self._do(deed, Standing(self.world, pose.positions, pose, self._compiled, legs))
        return pose.positions

    def _silenced_world(self, sensor):
        return _with_starts(self.world, self._halves_now()).silenced(sensor)

    def _other_world(self, world):
        halves = self._halves_now()
        if not isinstance(world, World) or world.plant.modes != self.world.plant.modes:
            raise BadDeed("world")
        if len(world.sensors) != len(self.world.sensors):
            raise BadDeed("world")
        if not lies_within(self.liars, world.lots):
            raise BadDeed("liars")
        return _with_starts(world, halves)

    def _halves_now(self):
        if self.halves is None:
            raise NotNow()
        return self.halves


def retell_story(story):
    """Return a new desk with the deeds of a story."""
    desk = Desk(story.world, story.start, story.liars)
    for deed in story.deeds:
        if is_sequence(deed, 1) and deed[0] == "back":
            raise BadDeed("deed")
        desk.take_deed(deed)
    return desk


def _with_starts(world, starts):
    plant = world.plant
    return world.with_plant(Plant(plant.factors, plant.pushes, starts))


def _with_tick(legs, tick):
    """Return legs with one tick more in the last one."""
    last = legs[-1]
    run = Run(last.run.start, last.run.liars, last.run.ticks + (tick,))
    return legs[:-1] + (Leg(last.world, last.blocks, run),)


def _without_last_tick(legs):
    last = legs[-1]
    run = Run(last.run.start, last.run.liars, last.run.ticks[:-1])
    return legs[:-1] + (Leg(last.world, last.blocks, run),)
