"""Pieces that touch are joined where together they are a box."""

from farheld.boxes import Piece

# So many pieces are quickly followed as they are; joining is for those that would grow ever more.
FEW = 50


def joined_if_many(pieces):
    """Return few pieces as they are, more of them joined."""
    return joined_pieces(pieces) if len(pieces) > FEW else list(pieces)


def joined_pieces(pieces):
    """Return disjoint pieces that cover the same, but for points on ends, with touching ones joined."""
    parts = [(piece.sides, piece.memories) for piece in pieces]
    axes = len(parts[0][0])
    axis, done = 0, 0
    # Along an axis nothing is left to join until something is joined along another one.
    while done < axes:
        joined = _joined_along(parts, axis)
        done = done + 1 if len(joined) == len(parts) else 1
        parts = joined
        axis = (axis + 1) % axes
    return [Piece(sides, memories) for sides, memories in parts]


def _joined_along(parts, axis):
    """Return parts with those joined that touch along an axis and are alike in all else."""
    rows = {}
    for sides, memories in parts:
        key = (sides[:axis], sides[axis + 1:], memories)
        low, high = sides[axis]
        if key not in rows:
            rows[key] = {}
        rows[key][low] = high
    told = []
    for (ahead, behind, memories), highs in rows.items():
        ends = {high: True for high in highs.values()}
        for low in highs:
            if low not in ends:
                told.append((ahead + (_chained(low, highs),) + behind, memories))
    return told


def _chained(low, highs):
    """Return the side from a low end on through all sides that begin where another one ends."""
    high = highs[low]
    while high in highs:
        high = highs[high]
    return (low, high)
