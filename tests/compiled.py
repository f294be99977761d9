"""Kept worlds and their compiled programs, and runs in which liars lie with a purpose."""

from farheld.blocks import block_ticks
from farheld.channels import Channel
from farheld.compiling import compile_world
from farheld.errors import Barred, TooLarge, TooNear
from farheld.plants import Plant
from farheld.ratios import make_ratio, plus, times
from farheld.running import Run, first_pose, play_tick
from farheld.worlds import Sensor, World
from tests.helpers import DEAD, clean_use, each_misses_one, ring
from tests.test_shares import some_use

LOTS = ((), ((0,),), ((0,), (1,)), ((0,), (1,), (2,)), ((0, 1), (2,)), ((0,), (1,), (2,), (3,)))


def some_kept_world(source, tries=200):
    """Return a world of some growing mode that is not barred."""
    for _ in range(tries):
        world = some_growing_world(source)
        try:
            compile_world(world)
        except (Barred, TooNear, TooLarge):
            continue
        return world
    raise AssertionError("no kept world was drawn")


def some_growing_world(source):
    period, modes, many = source.randint(1, 3), source.choice((1, 1, 2, 3)), source.randint(1, 4)
    rows = []
    for _ in range(modes):
        rows.append([make_ratio(source.choice((-1, 1)) * source.choice((1, 2, 3, 4, 5)), source.choice((2, 3, 4))) for _ in range(period)])
    starts = [make_ratio(source.randint(0, 9), source.randint(1, 3)) for _ in range(modes)]
    pushes = [make_ratio(source.randint(1, 4), source.randint(1, 3)) for _ in range(modes)]
    sensors = []
    for _ in range(many):
        seen = sorted(source.sample(range(modes), source.randint(1, modes)))
        if source.random() < 0.5:
            seen = range(modes)
        # A ring and its kin leave lists; a phase may be dead, so that checks come late.
        alive = source.choice((clean_use(2), clean_use(3), clean_use(4), ring(4), ring(5), each_misses_one(3), None))
        table = []
        for _ in range(period):
            use = some_use(source, 3, 4) if alive is None else alive
            table.append(((0,),) * len(use) if source.random() < 0.2 else use)
        if len({len(use) for use in table}) > 1:
            table = [use[:min(len(one) for one in table)] for use in table]
        sensors.append(Sensor(tuple(seen), Channel(5, table)))
    lots = [lot for lot in source.choice(LOTS) if all(sensor < many for sensor in lot)]
    return World(Plant(rows, pushes, starts), sensors, lots)


def wild_run(source, compiled, blocks=4, start=None, liars=None):
    """Return a run in which liars say what they would say elsewhere, or anything, and pushes are whole ones."""
    world, program = compiled.world, compiled.program
    ticks = blocks * max(block_ticks(world, split) for split in compiled.splits)
    if start is None:
        start = [times(one, make_ratio(source.choice((-2, -1, 0, 1, 2)), 2)) for one in world.plant.starts]
    if liars is None:
        lot = source.choice(world.lots)
        liars = tuple(sorted(source.sample(lot, source.randint(0, len(lot)))))
    pose = first_pose(world, program, start)
    played = []
    shift = source.choice((0, 1, -1, 3, -10))
    style = source.choice(("up", "down", "any"))
    for _ in range(ticks):
        played.append(_wild_tick(source, world, program, pose, liars, shift, style))
        pose = play_tick(world, program, pose, played[-1])
    return Run(tuple(start), liars, tuple(played))


def _wild_tick(source, world, program, pose, liars, shift, style):
    words = []
    for sensor, (coder, memory) in enumerate(zip(program.coders, pose.memories)):
        positions = pose.positions
        if sensor in liars:
            positions = [plus(one, (shift, 1)) for one in positions]
        word, _ = coder.say(pose.state, pose.registers, memory, positions)
        if sensor in liars and source.random() < 0.3:
            word = source.randrange(world.sensors[sensor].channel.words)
        words.append(word)
    phase = pose.tick % world.period
    outcomes = [source.choice(sensor.channel.table[phase][word]) for sensor, word in zip(world.sensors, words)]
    pushes = []
    for mode, (top, bottom) in enumerate(world.plant.pushes):
        side = {"up": 1, "down": -1}.get(style, source.choice((-1, 0, 1)))
        pushes.append(make_ratio(top * side, bottom))
    return (tuple(words), tuple(outcomes), tuple(pushes))


def dead_first(period=2):
    """Return a channel whose first phase is dead and whose later ones are clean."""
    return Channel(3, [DEAD] + [clean_use(3)] * (period - 1))
