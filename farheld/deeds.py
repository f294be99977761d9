"""Deeds: what a controller does shows the coders what came out, so that nobody need be told."""

from farheld.errors import BadRun, BadTick, NotQuiet
from farheld.ratios import ZERO, compare, floor_of, minus, over, plus, size_of, times
from farheld.running import Pose, first_pose, inputs_of, registers_behind, run_fault, tick_fault

THREE = (3, 1)


class DeedPose:
    """What stands at the begin of a tick; a coder's copy is (number, state, registers, memory)."""

    def __init__(self, tick, positions, offsets, state, registers, copies):
        self.tick = tick
        self.positions = positions
        self.offsets = offsets
        self.state = state
        self.registers = registers
        self.copies = copies

    def __eq__(self, other):
        if not isinstance(other, DeedPose):
            return False
        if self.tick != other.tick or self.positions != other.positions or self.offsets != other.offsets:
            return False
        return self.state == other.state and self.registers == other.registers and self.copies == other.copies


def quiet_fault(program):
    """Return the least state whose moves have unlike steps, None for a quiet program."""
    return program.controller.loud_state


def find_offset(world, mode, number):
    """Return what the controller adds to a mode to show the number of an outcome row."""
    return times((3 * number, 1), world.plant.pushes[mode])


def read_number(world, mode, moved):
    """Return the number whose offset is at most the push away, None if there is none."""
    push = world.plant.pushes[mode]
    # Offsets lie 3 pushes apart, so there is at most one.
    number = floor_of(over(plus(moved, push), times(THREE, push)))
    if number < 0 or number >= world.outcome_rows:
        return None
    return number if _is_near(minus(moved, find_offset(world, mode, number)), push) else None


def first_deeds(world, program, start):
    """Return the pose of tick 0."""
    _check_quiet(program)
    pose = first_pose(world, program, start)
    copies = [(0, pose.state, pose.registers, memory) for memory in pose.memories]
    return DeedPose(0, pose.positions, (ZERO,) * world.plant.modes, pose.state, pose.registers, tuple(copies))


def deed_words(world, program, pose):
    """Return the words that the coders say by their copies."""
    _check_quiet(program)
    return tuple([word for word, _ in _replies_at(world, program, pose)])


def play_deed(world, program, pose, tick):
    """Return the pose behind a tick."""
    _check_quiet(program)
    what = tick_fault(world, pose.tick, (), None, tick)
    if what is not None:
        raise BadTick(what)
    return _deed_behind(world, program, pose, tick)


def walk_deeds(world, program, run):
    """Return all poses of a run."""
    _check_quiet(program)
    fault = run_fault(world, program, run)
    if fault is not None:
        raise BadRun(fault[0], fault[1])
    poses = [first_deeds(world, program, run.start)]
    for tick in run.ticks:
        poses.append(_deed_behind(world, program, poses[-1], tick))
    return tuple(poses)


def plain_pose(pose):
    """Return the pose without offsets and copies."""
    positions = [minus(position, offset) for position, offset in zip(pose.positions, pose.offsets)]
    memories = tuple([memory for _, _, _, memory in pose.copies])
    return Pose(pose.tick, tuple(positions), pose.state, pose.registers, memories)


def deed_bounds(world, bounds):
    """Return by mode the bound of the positions with their offsets."""
    last = world.outcome_rows - 1
    return tuple([plus(bound, find_offset(world, mode, last)) for mode, bound in enumerate(bounds)])


def _check_quiet(program):
    state = quiet_fault(program)
    if state is not None:
        raise NotQuiet(state)


def _is_near(gap, push):
    return compare(size_of(gap), push) <= 0


def _replies_at(world, program, pose):
    """Return the word and the next memory that each coder says by its copy."""
    told = []
    for coder, (number, state, registers, memory) in zip(program.coders, pose.copies):
        told.append(coder.say(state, registers, memory, _without_offsets(world, pose.positions, number)))
    return told


def _without_offsets(world, positions, number):
    return [minus(position, find_offset(world, mode, number)) for mode, position in enumerate(positions)]


def _deed_behind(world, program, pose, tick):
    """Return the pose behind a tick that was checked."""
    _, outcomes, pushes = tick
    plant = world.plant
    move = program.controller.find_move(pose.state, outcomes)
    inputs = inputs_of(move, pose.registers, plant.modes)
    shown = world.row_number(outcomes)
    offsets = tuple([find_offset(world, mode, shown) for mode in range(plant.modes)])
    positions = []
    for mode, position in enumerate(pose.positions):
        moved = times(plant.factors[mode][pose.tick % plant.period], minus(position, pose.offsets[mode]))
        positions.append(plus(plus(moved, inputs[mode]), plus(pushes[mode], offsets[mode])))
    copies = []
    for sensor, (_, memory) in enumerate(_replies_at(world, program, pose)):
        copies.append(_copy_behind(world, program, pose, sensor, positions, memory))
    registers = registers_behind(move, pose.registers)
    return DeedPose(pose.tick + 1, tuple(positions), offsets, move[0], registers, tuple(copies))


def _copy_behind(world, program, pose, sensor, positions, memory):
    """Return the copy that a coder makes of its old one and of the least mode that its sensor sees."""
    number, state, registers, _ = pose.copies[sensor]
    mode = world.sensors[sensor].seen[0]
    controller = program.controller
    # In a quiet program any move of the state tells the inputs.
    _, moves = controller.rows[state]
    inputs = inputs_of(moves[0], registers, world.plant.modes)
    factor = world.plant.factors[mode][pose.tick % world.period]
    kept = times(factor, minus(pose.positions[mode], find_offset(world, mode, number)))
    read = read_number(world, mode, minus(minus(positions[mode], kept), inputs[mode]))
    if read is None:
        return pose.copies[sensor]
    move = controller.find_move(state, world.row_of(read))
    return (read, move[0], registers_behind(move, registers), memory)
