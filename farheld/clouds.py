"""Clouds: states that the controller cannot tell apart, followed tick by tick."""

from farheld.boxes import Piece, piece_at, widened_pieces
from farheld.errors import BadPoint, Unheard
from farheld.joining import joined_if_many
from farheld.ranks import simplest_between
from farheld.ratios import ZERO, compare, greatest_of, is_ratio, is_whole, least_of, make_ratio, minus, plus
from farheld.running import Pose, Run, pose_behind, replies_at
from farheld.sequences import is_sequence
from farheld.sights import Sight
from farheld.steps import Step
from farheld.volumes import find_greatest, volumes_by_rows, volumes_by_words


class Cloud:
    """A set of states at the begin of a tick: disjoint pieces over the followed modes."""

    def __init__(self, tick, state, registers, modes, liars, positions, outcomes, pieces):
        self.tick = tick
        self.state = state
        self.registers = registers
        self.modes = modes
        self.liars = liars
        self.positions = positions
        self.outcomes = outcomes
        self.pieces = pieces


def first_cloud(world, program, modes, liars):
    """Return the cloud at tick 1."""
    pose = _zero_pose(world, program)
    tick = _tick_at(world, program, pose, liars, None, [ZERO] * world.plant.modes)
    behind = pose_behind(world, program, pose, replies_at(program, pose), tick)
    sides = []
    for mode in modes:
        push = world.plant.pushes[mode]
        sides.append((minus(behind.positions[mode], push), plus(behind.positions[mode], push)))
    piece = Piece(tuple(sides), _without_liars(behind.memories, liars))
    positions = tuple([None if mode in modes else one for mode, one in enumerate(behind.positions)])
    _, outcomes, _ = tick
    return Cloud(1, behind.state, behind.registers, tuple(modes), tuple(liars), positions, outcomes, (piece,))


def kept_volumes(world, program, cloud):
    """Return (outcomes, volume of the states whose words can give them) for each row, ascending."""
    volumes, bottom = volumes_by_words(world, cloud, _sights_of(program, cloud))
    kept = volumes_by_rows(volumes, [list(range(many)) for many in world.outcomes])
    return tuple([(row, make_ratio(kept[row], bottom)) for row in sorted(kept)])


def greatest_row(world, program, cloud):
    """Return the row that keeps the greatest volume, of equal ones the least row."""
    return find_greatest(world, program, cloud, _sights_of(program, cloud))


def next_cloud(world, program, cloud, outcomes):
    """Return the cloud one tick later if a row of outcomes comes."""
    row = _known_row(world, outcomes)
    behind = _cloud_behind(world, program, cloud, row, _sights_of(program, cloud))
    if behind is None:
        raise Unheard(outcomes)
    return behind


def greatest_cloud(world, program, cloud):
    """Return the cloud one tick later if the row comes that keeps the greatest volume."""
    sights = _sights_of(program, cloud)
    return _cloud_behind(world, program, cloud, find_greatest(world, program, cloud, sights), sights)


def trace_run(world, program, clouds, point):
    """Return the run that ends at a point of the last cloud and in which the outcomes of the clouds come."""
    cloud = clouds[-1]
    axes = len(cloud.modes)
    if not is_sequence(point, axes, axes) or not all([is_ratio(place) for place in point]):
        raise BadPoint()
    at = piece_at(cloud.pieces, point)
    if at is None:
        raise BadPoint()
    points = _traced_points(world, program, clouds, tuple(point), cloud.pieces[at])
    pose = _zero_pose(world, program)
    start = pose.positions
    ticks = []
    for passed, places in zip(clouds, points):
        words, outcomes, _ = _tick_at(world, program, pose, passed.liars, passed.outcomes, start)
        replies = replies_at(program, pose)
        unpushed = pose_behind(world, program, pose, replies, (words, outcomes, start))
        pushes = list(start)
        for mode, place in zip(passed.modes, places):
            pushes[mode] = minus(place, unpushed.positions[mode])
        ticks.append((words, outcomes, tuple(pushes)))
        pose = pose_behind(world, program, pose, replies, ticks[-1])
    return Run(start, clouds[0].liars, tuple(ticks))


def _sights_of(program, cloud):
    """Return the sight of each coder, None for liars."""
    return [None if at in cloud.liars else Sight(coder, cloud) for at, coder in enumerate(program.coders)]


def _cloud_behind(world, program, cloud, row, sights):
    """Return the cloud one tick later, None if no state is kept."""
    step = Step(world, program, cloud, row, sights)
    parts = step.images()
    if not parts:
        return None
    widened = widened_pieces(joined_if_many(parts), 0, world.plant.pushes[cloud.modes[0]])
    pieces = tuple(joined_if_many([piece for _, piece in widened]))
    state, registers, positions = step.move[0], step.next_registers(), step.other_positions()
    return Cloud(cloud.tick + 1, state, registers, cloud.modes, cloud.liars, positions, row, pieces)


def _known_row(world, outcomes):
    """Return a row of outcomes as a tuple, or raise Unheard."""
    numbers = world.outcomes
    if not is_sequence(outcomes, len(numbers), len(numbers)):
        raise Unheard(outcomes)
    if not all([is_whole(outcome, 0, many - 1) for outcome, many in zip(outcomes, numbers)]):
        raise Unheard(outcomes)
    return tuple(outcomes)


def _zero_pose(world, program):
    """Return the pose of tick 0 with all positions 0."""
    controller = program.controller
    memories = tuple([coder.first for coder in program.coders])
    return Pose(0, (ZERO,) * world.plant.modes, controller.first, controller.registers, memories)


def _tick_at(world, program, pose, liars, outcomes, pushes):
    """Return the tick at a pose in which liars send word 0; without outcomes the least of each word come."""
    words = []
    for at, (word, _) in enumerate(replies_at(program, pose)):
        words.append(0 if at in liars else word)
    if outcomes is None:
        phase = pose.tick % world.period
        outcomes = tuple([sensor.channel.table[phase][word][0] for sensor, word in zip(world.sensors, words)])
    return (tuple(words), outcomes, tuple(pushes))


def _without_liars(memories, liars):
    return tuple([0 if at in liars else memory for at, memory in enumerate(memories)])


def _traced_points(world, program, clouds, point, piece):
    """Return a point for each cloud, each of which is led to the next one by the outcomes and some pushes."""
    points = [point]
    for at in range(len(clouds) - 1, 0, -1):
        cloud = clouds[at - 1]
        step = Step(world, program, cloud, clouds[at].outcomes, _sights_of(program, cloud))
        point, piece = _point_ahead(world, step, point, piece.memories)
        points.append(point)
    return points[::-1]


def _point_ahead(world, step, point, memories):
    """Return a point of a step's cloud that can be led to a point with these memories, and its piece.

    Where parts were joined, a point may lie on an end of all of them. So each followed mode may be
    pushed: any place within the pushes of a part is led there from inside the part.
    """
    pushes = [world.plant.pushes[mode] for mode in step.cloud.modes]
    sources = step.sources_of([(minus(place, push), plus(place, push)) for place, push in zip(point, pushes)])
    for piece in step.cloud.pieces:
        if not _do_meet(piece.sides, sources):
            continue
        for sides, behind in step.parts_of(piece):
            if behind == memories and _do_meet(sides, sources):
                return (_simplest_point(sides, sources), piece)
    return None


def _simplest_point(sides, others):
    """Return a point inside two boxes that meet, with as few figures as there can be."""
    point = []
    for (low, high), (least, most) in zip(sides, others):
        point.append(simplest_between(greatest_of((low, least)), least_of((high, most))))
    return tuple(point)


def _do_meet(sides, others):
    """Tell whether two open boxes have points in common."""
    for (low, high), (least, most) in zip(sides, others):
        if compare(low, most) >= 0 or compare(least, high) >= 0:
            return False
    return True
