"""Kept worlds and their compiled programs, and runs in which liars lie with a purpose."""

from farheld.blocks import block_ticks, list_checkers, told_half, told_middle
from farheld.channels import Channel
from farheld.compiling import compile_world
from farheld.digits import cell_digits, count_told, join_cell, message_digits, sensor_message
from farheld.errors import Barred, TooLarge, TooNear
from farheld.plants import Plant
from farheld.ratios import compare, make_ratio, minus, plus, times
from farheld.running import Run, first_pose, play_tick
from farheld.splits import list_tasks, start_size
from farheld.trees import Telling
from farheld.worlds import Sensor, World
from tests.helpers import DEAD, clean_use, each_misses_one, ring
from tests.test_shares import some_use

LOTS = ((), ((0,),), ((0,), (1,)), ((0,), (1,), (2,)), ((0, 1), (2,)), ((0,), (1,), (2,), (3,)))


def some_kept_world(source, tries=200):
    """Return a world of some growing mode that is not barred."""
    for _ in range(tries):
        world = some_growing_world(source)
        try:
            compile_world(world)
        except (Barred, TooNear, TooLarge):
            continue
        return world
    raise AssertionError("no kept world was drawn")


def some_growing_world(source):
    period, modes, many = source.randint(1, 3), source.choice((1, 1, 2, 3)), source.randint(1, 4)
    rows = []
    for _ in range(modes):
        rows.append([make_ratio(source.choice((-1, 1)) * source.choice((1, 2, 3, 4, 5)), source.choice((2, 3, 4))) for _ in range(period)])
    starts = [make_ratio(source.randint(0, 9), source.randint(1, 3)) for _ in range(modes)]
    pushes = [make_ratio(source.randint(1, 4), source.randint(1, 3)) for _ in range(modes)]
    sensors = []
    for _ in range(many):
        seen = sorted(source.sample(range(modes), source.randint(1, modes)))
        if source.random() < 0.5:
            seen = range(modes)
        # A ring and its kin leave lists; a phase may be dead, so that checks come late.
        alive = source.choice((clean_use(2), clean_use(3), clean_use(4), ring(4), ring(5), each_misses_one(3), None))
        table = []
        for _ in range(period):
            use = some_use(source, 3, 4) if alive is None else alive
            table.append(((0,),) * len(use) if source.random() < 0.2 else use)
        if len({len(use) for use in table}) > 1:
            table = [use[:min(len(one) for one in table)] for use in table]
        sensors.append(Sensor(tuple(seen), Channel(5, table)))
    lots = [lot for lot in source.choice(LOTS) if all(sensor < many for sensor in lot)]
    return World(Plant(rows, pushes, starts), sensors, lots)


def wild_run(source, compiled, blocks=4, start=None, liars=None):
    """Return a run in which liars say what they would say elsewhere, or anything, and pushes are whole ones."""
    world, program = compiled.world, compiled.program
    ticks = blocks * max(block_ticks(world, split) for split in compiled.splits)
    if start is None:
        start = [times(one, make_ratio(source.choice((-2, -1, 0, 1, 2)), 2)) for one in world.plant.starts]
    if liars is None:
        lot = source.choice(world.lots)
        liars = tuple(sorted(source.sample(lot, source.randint(0, len(lot)))))
    pose = first_pose(world, program, start)
    played = []
    shift = source.choice((0, 1, -1, 3, -10))
    style = source.choice(("up", "down", "any"))
    for _ in range(ticks):
        played.append(_wild_tick(source, world, program, pose, liars, shift, style))
        pose = play_tick(world, program, pose, played[-1])
    return Run(tuple(start), liars, tuple(played))


def _wild_tick(source, world, program, pose, liars, shift, style):
    words = []
    for sensor, (coder, memory) in enumerate(zip(program.coders, pose.memories)):
        positions = pose.positions
        if sensor in liars:
            positions = [plus(one, (shift, 1)) for one in positions]
        word, _ = coder.say(pose.state, pose.registers, memory, positions)
        if sensor in liars and source.random() < 0.3:
            word = source.randrange(world.sensors[sensor].channel.words)
        words.append(word)
    phase = pose.tick % world.period
    outcomes = [source.choice(sensor.channel.table[phase][word]) for sensor, word in zip(world.sensors, words)]
    pushes = []
    for mode, (top, bottom) in enumerate(world.plant.pushes):
        side = {"up": 1, "down": -1}.get(style, source.choice((-1, 0, 1)))
        pushes.append(make_ratio(top * side, bottom))
    return (tuple(words), tuple(outcomes), tuple(pushes))


def dead_first(period=2):
    """Return a channel whose first phase is dead and whose later ones are clean."""
    return Channel(3, [DEAD] + [clean_use(3)] * (period - 1))


class Listener:
    """What a controller has gathered in a block, by the plain words of [11.9] and [11.10]."""

    def __init__(self, world, split, halves, cells):
        self.world, self.split, self.halves, self.cells = world, split, halves, cells
        self.telling = split.telling * world.period
        self.listing = self.telling + split.listing * world.period
        self.ticks = block_ticks(world, split)
        self.checks = dict(list_checkers(world, split))
        self.tellings, self.helps, self.lefts, self.is_struck = {}, {}, {}, False
        for sensor in world.outside(split.guess):
            if count_told(split.counts, sensor) > 1:
                uses = world.uses(sensor, 0, self.telling)
                self.tellings[sensor] = Telling(uses, count_told(split.counts, sensor), start_size(world, sensor))
                self.lefts[("tell", sensor)] = tuple(range(self.tellings[sensor].many))
            tasks = list_tasks(world, split.guess, split.counts, sensor)
            if tasks:
                many = 1
                for _, listed in tasks:
                    many *= start_size(world, listed)
                self.helps[sensor] = (tasks, Telling(world.uses(sensor, self.telling, self.listing - self.telling), many))
                self.lefts[("help", sensor)] = tuple(range(many))

    def asked(self, sensor, tick):
        """Return (kind, messages left, their words) of a sensor that tells or helps at a tick, else None."""
        if tick < self.telling and sensor in self.tellings:
            kind, telling, at = "tell", self.tellings[sensor], tick
        elif self.telling <= tick < self.listing and sensor in self.helps:
            kind, telling, at = "help", self.helps[sensor][1], tick - self.telling
        else:
            return None
        left = self.lefts[(kind, sensor)]
        words = [word for word, many in enumerate(telling.dealt_at(at, len(left))) for _ in range(many)]
        return (kind, left, words)

    def unlike(self, mode, sensor):
        """Return the unlike digits of a mode in the messages left of a sensor."""
        if sensor not in self.tellings:
            return [0]
        left = self.lefts[("tell", sensor)]
        return sorted({message_digits(self.split.counts, sensor, message)[mode] for message in left})

    def message(self, sensor, kind):
        """Return what an honest sensor must tell."""
        counts = self.split.counts
        if kind == "tell":
            return sensor_message(counts, sensor, self.cells)
        number = 0
        for mode, listed in self.helps[sensor][0]:
            unlike, digit = self.unlike(mode, listed), cell_digits(counts, mode, self.cells[mode])[listed]
            place = unlike.index(digit) if digit in unlike else 0
            number = number * start_size(self.world, listed) + place
        return number

    def due_word(self, sensor, tick, positions):
        """Return the word that an honest sensor must say, None if any may be said."""
        if self.is_struck:
            return 0
        if self.checks.get(sensor) == tick:
            good, bad = self.world.sensors[sensor].channel.parted_words(tick)
            return good if self.is_within(sensor, tick, positions) else bad
        asked = self.asked(sensor, tick)
        if asked is None:
            return 0
        kind, left, words = asked
        message = self.message(sensor, kind)
        if len(set(words)) == 1 or message not in left:
            return None
        return words[left.index(message)]

    def is_within(self, sensor, tick, positions):
        """Tell whether all growing modes that a checker sees lie in their told stretches, half-open."""
        cells = self.told_cells()
        for mode in self.world.sensors[sensor].seen:
            if mode not in self.world.plant.growing:
                continue
            low, high = self.stretch(mode, cells[mode], tick)
            if compare(positions[mode], low) < 0 or compare(positions[mode], high) >= 0:
                return False
        return True

    def stretch(self, mode, cell, tick):
        half, push = self.halves[mode], self.world.plant.pushes[mode]
        middle = told_middle(self.world, self.split, mode, half, cell, tick)
        wide = plus(told_half(self.world, self.split, mode, half, tick), push)
        return (minus(middle, wide), plus(middle, wide))

    def hear(self, tick, outcomes):
        """Take in the outcomes of a tick."""
        if self.is_struck:
            return
        behind = dict(self.lefts)
        for sensor, outcome in enumerate(outcomes):
            use = self.world.sensors[sensor].channel.table[tick % self.world.period]
            if self.checks.get(sensor) == tick:
                good, _ = self.world.sensors[sensor].channel.parted_words(tick)
                self.is_struck = self.is_struck or outcome not in use[good]
            asked = self.asked(sensor, tick)
            if asked is not None and len(set(asked[2])) > 1:
                kind, left, words = asked
                kept = tuple(message for message, word in zip(left, words) if outcome in use[word])
                self.is_struck = self.is_struck or self.split.checked and not kept
                behind[(kind, sensor)] = kept
        self.lefts = behind

    def told_cells(self):
        counts, cells = self.split.counts, []
        told = [[self.unlike(mode, sensor)[0] for sensor in range(len(self.world.sensors))] for mode in range(len(counts))]
        for helper, (tasks, _) in self.helps.items():
            rest = self.lefts[("help", helper)][0]
            for mode, listed in reversed(tasks):
                size, unlike = start_size(self.world, listed), self.unlike(mode, listed)
                told[mode][listed] = unlike[min(rest % size, len(unlike) - 1)]
                rest //= size
        for mode, row in enumerate(told):
            cells.append(join_cell(counts, mode, row))
        return tuple(cells)
