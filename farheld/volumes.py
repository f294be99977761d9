"""Volumes of a cloud: how much of it is kept by which row of outcomes."""

from math import lcm

from farheld.digits import multiplied


def find_greatest(world, program, cloud, sights):
    """Return the row that keeps the greatest volume of a cloud, of equal ones the least row."""
    sure = _sure_outcomes(world, program, cloud)
    if None not in sure:
        return sure
    volumes, _ = volumes_by_words(world, cloud, sights)
    kept = volumes_by_rows(volumes, _outcomes_worth_trying(volumes, world.outcomes))
    best = None
    for row in sorted(kept):
        if best is None or kept[row] > kept[best]:
            best = row
    return best


def volumes_by_words(world, cloud, sights):
    """Return the volumes of a cloud by what can be heard of each sensor's word, all times a bottom, and this."""
    phase = cloud.tick % world.period
    tables = [sensor.channel.table[phase] for sensor in world.sensors]
    parts = []
    for piece in cloud.pieces:
        parts.extend(_parts_by_words(piece, sights, tables))
    bottoms = _bottoms_of([sides for sides, _ in parts])
    volumes = {}
    for sides, told in parts:
        volumes[told] = volumes.get(told, 0) + _volume_times(sides, bottoms)
    return (volumes, multiplied(bottoms))


def _parts_by_words(piece, sights, tables):
    """Return (part of the sides, what can be heard of each sensor's word) of a piece."""
    parts = [(piece.sides, ())]
    for memory, sight, table in zip(piece.memories, sights, tables):
        if sight is None:
            parts = [(sides, told + (table[0],)) for sides, told in parts]
            continue
        label_of = _heard_by(table)
        found = []
        for sides, told in parts:
            found.extend([(part, told + (heard,)) for heard, part in sight.parts_of(sides, memory, label_of)])
        parts = found
    return parts


def _sure_outcomes(world, program, cloud):
    """Return for each sensor the outcome that is the least one of all its words, None if there is none.

    Nothing is lost by it, whatever the words are, and no lesser one can come.
    """
    told = []
    for at, (sensor, coder) in enumerate(zip(world.sensors, program.coders)):
        _, _, replies = coder.rules[cloud.state]
        words = [0] if at in cloud.liars else sorted(set([word for word, _ in replies]))
        least = [sensor.channel.table[cloud.tick % world.period][word][0] for word in words]
        told.append(least[0] if least == [least[0]] * len(least) else None)
    return tuple(told)


def _heard_by(row):
    """Return the label of replies: what can be heard of the word."""
    return lambda reply, memory: row[reply[0]]


def _bottoms_of(boxes):
    """Return for each axis a number that all bottoms of ends along it divide."""
    bottoms = [1] * len(boxes[0])
    for sides in boxes:
        for axis, side in enumerate(sides):
            for _, bottom in side:
                if bottoms[axis] % bottom != 0:
                    bottoms[axis] = lcm(bottoms[axis], bottom)
    return bottoms


def _volume_times(sides, bottoms):
    """Return the volume of sides times all bottoms, a whole number."""
    volume = 1
    for (low, high), bottom in zip(sides, bottoms):
        volume *= high[0] * (bottom // high[1]) - low[0] * (bottom // low[1])
    return volume


def volumes_by_rows(volumes, tried):
    """Return the volumes by outcome row, of the rows of outcomes that are tried for each sensor."""
    found = volumes
    for at, outcomes in enumerate(tried):
        told = {}
        for key, volume in found.items():
            for outcome in key[at]:
                if outcome in outcomes:
                    row = key[:at] + (outcome,) + key[at + 1:]
                    told[row] = told.get(row, 0) + volume
        found = told
    return found


def _outcomes_worth_trying(volumes, numbers):
    """Return for each sensor the outcomes without those that come only where a lesser one can come, too."""
    told = []
    for at, many in enumerate(numbers):
        unlike = sorted(set([key[at] for key in volumes]))
        hearing = [[place for place, heard in enumerate(unlike) if outcome in heard] for outcome in range(many)]
        kept = []
        for outcome, places in enumerate(hearing):
            lesser = [other for other in kept if all([place in hearing[other] for place in places])]
            if places and not lesser:
                kept.append(outcome)
        told.append(kept)
    return told
