"""Runs: what a plant does under a program, tick by tick."""

from farheld.errors import BadRun, BadStart, BadTick
from farheld.forms import form_value
from farheld.lots import lies_within
from farheld.ratios import ZERO, compare, greatest_of, is_ratio, is_whole, plus, size_of, times
from farheld.sequences import is_ascending, is_sequence


class Pose:
    """What stands at the begin of a tick."""

    def __init__(self, tick, positions, state, registers, memories):
        self.tick = tick
        self.positions = positions
        self.state = state
        self.registers = registers
        self.memories = memories

    def __eq__(self, other):
        if not isinstance(other, Pose):
            return False
        if self.tick != other.tick or self.positions != other.positions or self.state != other.state:
            return False
        return self.registers == other.registers and self.memories == other.memories


class Run:
    """Where a run starts, who may lie in it, and its ticks (words, outcomes, pushes)."""

    def __init__(self, start, liars, ticks):
        self.start = start
        self.liars = liars
        self.ticks = ticks

    def __eq__(self, other):
        if not isinstance(other, Run):
            return False
        return self.start == other.start and self.liars == other.liars and self.ticks == other.ticks


def first_pose(world, program, start):
    """Return the pose of tick 0."""
    check_start(world, start)
    controller = program.controller
    memories = tuple([coder.first for coder in program.coders])
    return Pose(0, tuple(start), controller.first, controller.registers, memories)


def honest_words(program, pose):
    """Return the words that the coders say at a pose."""
    return tuple([word for word, _ in replies_at(program, pose)])


def play_tick(world, program, pose, tick):
    """Return the pose behind a tick."""
    what, behind = _played(world, program, pose, None, tick)
    if what is not None:
        raise BadTick(what)
    return behind


def possible_outcomes(world, phase, words):
    """Yield every outcome row that can come of these words in a phase, ascending."""
    rows = [()]
    for sensor, word in zip(world.sensors, words):
        heard = sensor.channel.table[phase % world.period][word]
        rows = [row + (outcome,) for row in rows for outcome in heard]
    for row in rows:
        yield row


def run_fault(world, program, run):
    """Return (tick, what) for the first fault of a run, None if there is none."""
    _, fault = _walked(world, program, run)
    return fault


def walk(world, program, run):
    """Return all poses of a run."""
    poses, fault = _walked(world, program, run)
    return _sound(poses, fault)


def go_on(world, program, pose, liars, ticks):
    """Return a pose and all poses behind it."""
    poses, fault = _gone_on(world, program, pose, liars, ticks)
    return _sound(poses, fault)


def beyond(world, program, run, bound):
    """Return (tick, mode) where a run first passes a bound, None if it never does."""
    for pose in walk(world, program, run):
        for mode, position in enumerate(pose.positions):
            if compare(size_of(position), bound) > 0:
                return (pose.tick, mode)
    return None


def greatest_sizes(world, program, run):
    """Return the greatest size that each mode has in a run."""
    poses = walk(world, program, run)
    return tuple([greatest_of([size_of(pose.positions[mode]) for pose in poses]) for mode in range(world.plant.modes)])


def play_run(world, program, start, liars, picks):
    """Return the run in which honest sensors say their coders' words and the picks tell the rest."""
    pose = _begun(world, program, start)
    if pose is None:
        raise BadRun(0, "start")
    if not are_liars(world, liars):
        raise BadRun(0, "liars")
    ticks = []
    for pick in picks:
        replies = replies_at(program, pose)
        tick = _picked(world, pose, liars, [word for word, _ in replies], pick)
        pose = pose_behind(world, program, pose, replies, tick)
        ticks.append(tick)
    return Run(tuple(start), tuple(liars), tuple(ticks))


def check_start(world, start):
    """Raise BadStart unless this is a sequence of a ratio for each mode, none greater than the mode's start."""
    starts = world.plant.starts
    if not is_sequence(start, len(starts), len(starts)) or not all([is_ratio(one) for one in start]):
        raise BadStart(0)
    for mode, one in enumerate(start):
        if compare(size_of(one), starts[mode]) > 0:
            raise BadStart(mode)


def replies_at(program, pose):
    """Return each coder's word and next memory at a pose."""
    told = []
    for coder, memory in zip(program.coders, pose.memories):
        told.append(coder.say(pose.state, pose.registers, memory, pose.positions))
    return told


def pose_behind(world, program, pose, replies, tick):
    """Return the pose behind a tick that was checked."""
    _, outcomes, pushes = tick
    move = program.controller.find_move(pose.state, outcomes)
    inputs = inputs_of(move, pose.registers, world.plant.modes)
    phase = pose.tick % world.period
    positions = []
    for mode, position in enumerate(pose.positions):
        moved = times(position, world.plant.factors[mode][phase])
        positions.append(plus(plus(moved, inputs[mode]), pushes[mode]))
    memories = tuple([memory for _, memory in replies])
    return Pose(pose.tick + 1, tuple(positions), move[0], registers_behind(move, pose.registers), memories)


def inputs_of(move, registers, modes):
    """Return the input that a move gives each mode."""
    inputs = [ZERO] * modes
    for mode, form in move[2]:
        inputs[mode] = form_value(form, registers)
    return inputs


def registers_behind(move, registers):
    """Return the registers behind the changes of a move."""
    told = list(registers)
    for register, form in move[1]:
        told[register] = form_value(form, registers)
    return tuple(told)


def tick_fault(world, at, honest, liars, tick):
    """Return the first fault of a tick with that number, None if it has none.

    Without liars (None) every sensor may send another word than its honest one.
    """
    if not is_sequence(tick, 3, 3):
        return "tick"
    words, outcomes, pushes = tick
    if not are_words(words, [sensor.channel.words for sensor in world.sensors]):
        return "words"
    if liars is not None:
        for sensor, word in enumerate(honest):
            if sensor not in liars and words[sensor] != word:
                return "honest"
    if not _are_heard(world, at, words, outcomes):
        return "outcomes"
    return None if _are_pushes(world, pushes) else "pushes"


def are_liars(world, liars):
    """Tell whether a thing is an ascending sequence of sensors that stand in one lot."""
    many = len(world.sensors)
    return is_ascending(liars, 0, many, many) and lies_within(liars, world.lots)


def _begun(world, program, start):
    try:
        return first_pose(world, program, start)
    except BadStart:
        return None


def _sound(poses, fault):
    if fault is not None:
        raise BadRun(fault[0], fault[1])
    return tuple(poses)


def _walked(world, program, run):
    """Return the poses of a run up to its first fault, and that fault or None."""
    pose = _begun(world, program, run.start)
    if pose is None:
        return ([], (0, "start"))
    return _gone_on(world, program, pose, run.liars, run.ticks)


def _gone_on(world, program, pose, liars, ticks):
    poses = [pose]
    if not are_liars(world, liars):
        return (poses, (0, "liars"))
    for tick in ticks:
        last = poses[-1]
        what, behind = _played(world, program, last, liars, tick)
        if what is not None:
            return (poses, (last.tick, what))
        poses.append(behind)
    return (poses, None)


def _played(world, program, pose, liars, tick):
    """Return the first fault of a tick and None, or None and the pose behind it.

    Without liars (None) every sensor may lie.
    """
    replies = replies_at(program, pose)
    what = tick_fault(world, pose.tick, [word for word, _ in replies], liars, tick)
    if what is not None:
        return (what, None)
    return (None, pose_behind(world, program, pose, replies, tick))


def are_words(words, numbers):
    """Tell whether a thing is a sequence of a word for each of these numbers of words."""
    if not is_sequence(words, len(numbers), len(numbers)):
        return False
    return all([is_whole(word, 0, many - 1) for word, many in zip(words, numbers)])


def _are_heard(world, phase, words, outcomes):
    if not is_sequence(outcomes, len(words), len(words)):
        return False
    for sensor, word, outcome in zip(world.sensors, words, outcomes):
        if not is_whole(outcome) or outcome not in sensor.channel.table[phase % world.period][word]:
            return False
    return True


def _are_pushes(world, pushes):
    most = world.plant.pushes
    if not is_sequence(pushes, len(most), len(most)) or not all([is_ratio(push) for push in pushes]):
        return False
    return all([compare(size_of(push), bound) <= 0 for push, bound in zip(pushes, most)])


def _picked(world, pose, liars, words, pick):
    """Return the tick that a pick makes of the coders' words, or raise BadRun."""
    lies, choices, pushes = pick
    if not are_words(lies, [world.sensors[liar].channel.words for liar in liars]):
        raise BadRun(pose.tick, "words")
    if not _are_pushes(world, pushes):
        raise BadRun(pose.tick, "pushes")
    sent = list(words)
    for liar, lie in zip(liars, lies):
        sent[liar] = lie
    outcomes = []
    for sensor, word, choice in zip(world.sensors, sent, choices):
        heard = sensor.channel.table[pose.tick % world.period][word]
        outcomes.append(heard[choice % len(heard)])
    return (tuple(sent), tuple(outcomes), tuple(pushes))
