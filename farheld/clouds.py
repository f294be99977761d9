"""Clouds: states that the controller cannot tell apart, followed tick by tick."""

from math import lcm

from farheld.boxes import Piece, moved_side, piece_at, pull_back, widened_pieces
from farheld.errors import BadPoint, Unheard
from farheld.joining import joined_pieces
from farheld.ratios import ZERO, compare, is_ratio, is_whole, make_ratio, minus, negative, plus, times
from farheld.running import Pose, Run, inputs_of, pose_behind, registers_behind, replies_at
from farheld.sequences import is_sequence
from farheld.sights import Sight


class Cloud:
    """A set of states at the begin of a tick: disjoint pieces over the followed modes."""

    def __init__(self, tick, state, registers, modes, liars, positions, outcomes, pieces):
        self.tick = tick
        self.state = state
        self.registers = registers
        self.modes = modes
        self.liars = liars
        self.positions = positions
        self.outcomes = outcomes
        self.pieces = pieces


def first_cloud(world, program, modes, liars):
    """Return the cloud at tick 1."""
    pose = _zero_pose(world, program)
    tick = _tick_at(world, program, pose, liars, None, [ZERO] * world.plant.modes)
    behind = pose_behind(world, program, pose, replies_at(program, pose), tick)
    sides = []
    for mode in modes:
        push = world.plant.pushes[mode]
        sides.append((minus(behind.positions[mode], push), plus(behind.positions[mode], push)))
    piece = Piece(tuple(sides), _without_liars(behind.memories, liars))
    positions = tuple([None if mode in modes else one for mode, one in enumerate(behind.positions)])
    _, outcomes, _ = tick
    return Cloud(1, behind.state, behind.registers, tuple(modes), tuple(liars), positions, outcomes, (piece,))


def kept_volumes(world, program, cloud):
    """Return (outcomes, volume of the states whose words can give them) for each row, ascending."""
    volumes, bottom = _volumes_by_words(world, program, cloud)
    kept = _volumes_by_rows(volumes, [list(range(many)) for many in world.outcomes])
    return tuple([(row, make_ratio(kept[row], bottom)) for row in sorted(kept)])


def greatest_row(world, program, cloud):
    """Return the row that keeps the greatest volume, of equal ones the least row."""
    sure = _sure_outcomes(world, program, cloud)
    if None not in sure:
        return sure
    volumes, _ = _volumes_by_words(world, program, cloud)
    kept = _volumes_by_rows(volumes, _outcomes_worth_trying(volumes, world.outcomes))
    best = None
    for row in sorted(kept):
        if best is None or kept[row] > kept[best]:
            best = row
    return best


def next_cloud(world, program, cloud, outcomes):
    """Return the cloud one tick later if these outcomes come."""
    row = _known_row(world, outcomes)
    step = Step(world, program, cloud, row)
    parts = []
    for piece in cloud.pieces:
        parts.extend(step.images_of(piece))
    if not parts:
        raise Unheard(outcomes)
    moved = joined_pieces(parts)
    push = world.plant.pushes[cloud.modes[0]]
    pieces = joined_pieces([piece for _, piece in widened_pieces(moved, 0, push)])
    registers = registers_behind(step.move, cloud.registers)
    modes, liars = cloud.modes, cloud.liars
    return Cloud(cloud.tick + 1, step.move[0], registers, modes, liars, step.other_positions(), row, tuple(pieces))


def trace_run(world, program, clouds, point):
    """Return the run that ends at a point of the last cloud and in which the outcomes of the clouds come."""
    cloud = clouds[-1]
    axes = len(cloud.modes)
    if not is_sequence(point, axes, axes) or not all([is_ratio(place) for place in point]):
        raise BadPoint()
    at = piece_at(cloud.pieces, point)
    if at is None:
        raise BadPoint()
    points = _traced_points(world, program, clouds, tuple(point), cloud.pieces[at])
    pose = _zero_pose(world, program)
    start = pose.positions
    ticks = []
    for passed, places in zip(clouds, points):
        words, outcomes, _ = _tick_at(world, program, pose, passed.liars, passed.outcomes, start)
        replies = replies_at(program, pose)
        unpushed = pose_behind(world, program, pose, replies, (words, outcomes, start))
        pushes = list(start)
        for mode, place in zip(passed.modes, places):
            pushes[mode] = minus(place, unpushed.positions[mode])
        ticks.append((words, outcomes, tuple(pushes)))
        pose = pose_behind(world, program, pose, replies, ticks[-1])
    return Run(start, clouds[0].liars, tuple(ticks))


class Step:
    """What happens to a cloud in its tick if a row of outcomes comes."""

    def __init__(self, world, program, cloud, outcomes):
        self.cloud = cloud
        self.move = program.controller.find_move(cloud.state, outcomes)
        self.inputs = inputs_of(self.move, cloud.registers, world.plant.modes)
        phase = cloud.tick % world.period
        self.factors = [row[phase] for row in world.plant.factors]
        self.sights = []
        self.can_come = []
        for at, (sensor, coder) in enumerate(zip(world.sensors, program.coders)):
            self.sights.append(None if at in cloud.liars else Sight(coder, cloud))
            self.can_come.append([outcomes[at] in heard for heard in sensor.channel.table[phase]])

    def parts_of(self, piece):
        """Return (part of the sides, memories behind) of a piece for the states that are kept."""
        parts = [(piece.sides, ())]
        for at, sight in enumerate(self.sights):
            can_come = self.can_come[at]
            if sight is None:
                parts = [(sides, told + (0,)) for sides, told in parts if can_come[0]]
                continue
            memory = piece.memories[at]
            found = []
            for sides, told in parts:
                for behind, part in sight.parts_of(sides, memory, _next_memory_by(can_come)):
                    found.append((part, told + (behind,)))
            parts = found
        return parts

    def images_of(self, piece):
        """Return the pieces into which the kept states of a piece are moved, ahead of any pushes."""
        return [Piece(self.moved(sides), memories) for sides, memories in self.parts_of(piece)]

    def moved(self, sides):
        """Return the image of sides, ahead of any pushes."""
        told = []
        for mode, side in zip(self.cloud.modes, sides):
            told.append(moved_side(side, self.factors[mode], self.inputs[mode]))
        return tuple(told)

    def other_positions(self):
        """Return the next positions of the modes that are not followed."""
        told = []
        for mode, one in enumerate(self.cloud.positions):
            told.append(None if one is None else plus(times(one, self.factors[mode]), self.inputs[mode]))
        return tuple(told)

    def sources_of(self, sides):
        """Return the sides whose image some sides are."""
        told = []
        for mode, side in zip(self.cloud.modes, sides):
            top, bottom = self.factors[mode]
            back = make_ratio(bottom, top)
            told.append(moved_side(side, back, negative(times(self.inputs[mode], back))))
        return told


def _next_memory_by(can_come):
    """Return the label of replies: the memory behind, None if the outcome cannot come of the word."""
    def label_of(reply, memory):
        word, behind = reply
        if not can_come[word]:
            return None
        return memory if behind is None else behind
    return label_of


def _heard_by(row):
    """Return the label of replies: what can be heard of the word."""
    return lambda reply, memory: row[reply[0]]


def _sure_outcomes(world, program, cloud):
    """Return for each sensor the outcome that is the least one of all its words, None if there is none.

    Nothing is lost by it, whatever the words are, and no lesser one can come.
    """
    told = []
    for at, (sensor, coder) in enumerate(zip(world.sensors, program.coders)):
        _, _, replies = coder.rules[cloud.state]
        words = [0] if at in cloud.liars else sorted(set([word for word, _ in replies]))
        least = [sensor.channel.table[cloud.tick % world.period][word][0] for word in words]
        told.append(least[0] if least == [least[0]] * len(least) else None)
    return tuple(told)


def _volumes_by_words(world, program, cloud):
    """Return the volumes of a cloud by what can be heard of each sensor's word, all times a bottom, and this."""
    phase = cloud.tick % world.period
    tables = [sensor.channel.table[phase] for sensor in world.sensors]
    sights = [None if at in cloud.liars else Sight(coder, cloud) for at, coder in enumerate(program.coders)]
    parts = []
    for piece in cloud.pieces:
        found = [(piece.sides, ())]
        for at, sight in enumerate(sights):
            if sight is None:
                found = [(sides, told + (tables[at][0],)) for sides, told in found]
                continue
            label_of = _heard_by(tables[at])
            found = [
                (part, told + (heard,))
                for sides, told in found
                for heard, part in sight.parts_of(sides, piece.memories[at], label_of)
            ]
        parts.extend(found)
    bottoms = _bottoms_of([sides for sides, _ in parts])
    volumes = {}
    for sides, told in parts:
        volumes[told] = volumes.get(told, 0) + _volume_times(sides, bottoms)
    total = 1
    for bottom in bottoms:
        total *= bottom
    return (volumes, total)


def _bottoms_of(boxes):
    """Return for each axis a number that all bottoms of ends along it divide."""
    bottoms = [1] * len(boxes[0])
    for sides in boxes:
        for axis, side in enumerate(sides):
            for _, bottom in side:
                if bottoms[axis] % bottom != 0:
                    bottoms[axis] = lcm(bottoms[axis], bottom)
    return bottoms


def _volume_times(sides, bottoms):
    """Return the volume of sides times all bottoms, a whole number."""
    volume = 1
    for (low, high), bottom in zip(sides, bottoms):
        volume *= high[0] * (bottom // high[1]) - low[0] * (bottom // low[1])
    return volume


def _volumes_by_rows(volumes, tried):
    """Return the volumes by outcome row, of the rows of outcomes that are tried for each sensor."""
    found = volumes
    for at, outcomes in enumerate(tried):
        told = {}
        for key, volume in found.items():
            for outcome in key[at]:
                if outcome in outcomes:
                    row = key[:at] + (outcome,) + key[at + 1:]
                    told[row] = told.get(row, 0) + volume
        found = told
    return found


def _outcomes_worth_trying(volumes, numbers):
    """Return for each sensor the outcomes without those that come only where a lesser one can come, too."""
    told = []
    for at, many in enumerate(numbers):
        unlike = sorted(set([key[at] for key in volumes]))
        hearing = [[place for place, heard in enumerate(unlike) if outcome in heard] for outcome in range(many)]
        kept = []
        for outcome, places in enumerate(hearing):
            lesser = [other for other in kept if all([place in hearing[other] for place in places])]
            if places and not lesser:
                kept.append(outcome)
        told.append(kept)
    return told


def _known_row(world, outcomes):
    """Return a row of outcomes as a tuple, or raise Unheard."""
    numbers = world.outcomes
    if not is_sequence(outcomes, len(numbers), len(numbers)):
        raise Unheard(outcomes)
    if not all([is_whole(outcome, 0, many - 1) for outcome, many in zip(outcomes, numbers)]):
        raise Unheard(outcomes)
    return tuple(outcomes)


def _zero_pose(world, program):
    """Return the pose of tick 0 with all positions 0."""
    controller = program.controller
    memories = tuple([coder.first for coder in program.coders])
    return Pose(0, (ZERO,) * world.plant.modes, controller.first, controller.registers, memories)


def _tick_at(world, program, pose, liars, outcomes, pushes):
    """Return the tick at a pose in which liars send word 0; without outcomes the least of each word come."""
    words = []
    for at, (word, _) in enumerate(replies_at(program, pose)):
        words.append(0 if at in liars else word)
    if outcomes is None:
        phase = pose.tick % world.period
        outcomes = tuple([sensor.channel.table[phase][word][0] for sensor, word in zip(world.sensors, words)])
    return (tuple(words), outcomes, tuple(pushes))


def _without_liars(memories, liars):
    return tuple([0 if at in liars else memory for at, memory in enumerate(memories)])


def _traced_points(world, program, clouds, point, piece):
    """Return a point for each cloud, each of which is led to the next one by the outcomes and some pushes."""
    points = [point]
    for at in range(len(clouds) - 1, 0, -1):
        step = Step(world, program, clouds[at - 1], clouds[at].outcomes)
        point, piece = _point_ahead(world, step, point, piece.memories)
        points.append(point)
    return points[::-1]


def _point_ahead(world, step, point, memories):
    """Return a point of a step's cloud that can be led to a point with these memories, and its piece.

    Where parts were joined, a point may lie on an end of all of them. So each followed mode may be
    pushed: a point within the pushes of a part is led there from inside the part.
    """
    modes = step.cloud.modes
    pushes = [world.plant.pushes[mode] for mode in modes]
    reach = [(minus(place, push), plus(place, push)) for place, push in zip(point, pushes)]
    sources = step.sources_of(reach)
    for piece in step.cloud.pieces:
        if not _do_meet(piece.sides, sources):
            continue
        for sides, behind in step.parts_of(piece):
            if behind == memories and _do_meet(sides, sources):
                near = [_pulled(side, push, place) for side, push, place in zip(step.moved(sides), pushes, point)]
                return (tuple([low for low, _ in step.sources_of([(place, place) for place in near])]), piece)
    return None


def _pulled(side, push, place):
    """Return a place inside a side that is less than a push away."""
    return pull_back((side,), 0, push, (place,))[0]


def _do_meet(sides, others):
    """Tell whether two open boxes have points in common."""
    for (low, high), (least, most) in zip(sides, others):
        if compare(low, most) >= 0 or compare(least, high) >= 0:
            return False
    return True
