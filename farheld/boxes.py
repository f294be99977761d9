"""Pieces: open boxes with a memory for each sensor."""

from farheld.claims import first_claims
from farheld.cover import covered_volume
from farheld.ranks import ascending, ranks_of
from farheld.ratios import HALF, compare, greatest_of, least_of, minus, plus, product_of, sum_of, times


class Piece:
    """An open box, a couple (low, high) for each axis, with its memories."""

    def __init__(self, sides, memories):
        self.sides = sides
        self.memories = memories

    def __eq__(self, other):
        if not isinstance(other, Piece):
            return False
        return self.sides == other.sides and self.memories == other.memories


def volume_of(pieces):
    """Return the sum of the volumes of pieces."""
    return sum_of([product_of([minus(high, low) for low, high in piece.sides]) for piece in pieces])


def shadow_of(pieces, axis):
    """Return the volume, on the other axes, of what pieces cover if looked at along an axis."""
    return covered_volume([_flat(piece.sides, axis) for piece in pieces])


def overlap_of(pieces):
    """Return the least couple of indices of pieces that are not disjoint, None if there is none."""
    if len(pieces) < 2:
        return None
    # A mask has a bit for each piece: those that meet a piece on all axes are found by a few steps.
    meeting = [(1 << len(pieces)) - 1] * len(pieces)
    for axis in range(len(pieces[0].sides)):
        masks = _masks_along([piece.sides[axis] for piece in pieces])
        meeting = [one & mask for one, mask in zip(meeting, masks)]
    for index, mask in enumerate(meeting):
        later = mask >> (index + 1)
        if later > 0:
            return (index, index + (later & -later).bit_length())
    return None


def piece_at(pieces, point):
    """Return the index of the first piece that a point is inside, None if there is none."""
    for index, piece in enumerate(pieces):
        if is_inside(piece.sides, point):
            return index
    return None


def cut_pieces(pieces, axis, cuts):
    """Return (index of a piece, Piece) for the parts of each piece between the cuts along an axis."""
    told = []
    places = ascending(cuts)
    for index, piece in enumerate(pieces):
        low, high = piece.sides[axis]
        ends = [low] + places[count_below(places, low, True):count_below(places, high, False)] + [high]
        for at in range(len(ends) - 1):
            told.append((index, Piece(with_side(piece.sides, axis, (ends[at], ends[at + 1])), tuple(piece.memories))))
    return tuple(told)


def moved_pieces(pieces, factors, shifts):
    """Return the images of pieces: on each axis x goes to factor * x + shift."""
    told = []
    for piece in pieces:
        sides = [moved_side(side, factor, shift) for side, factor, shift in zip(piece.sides, factors, shifts)]
        told.append(Piece(tuple(sides), tuple(piece.memories)))
    return tuple(told)


def widened_pieces(pieces, axis, by):
    """Return (index, Piece) for pieces that are widened by a ratio below and above along an axis."""
    lows = _claims_along(pieces, axis, [piece.sides[axis][0] for piece in pieces], False)
    highs = _claims_along(pieces, axis, [piece.sides[axis][1] for piece in pieces], True)
    told = []
    for index, piece in enumerate(pieces):
        if lows[index] or highs[index]:
            told.extend([(index, part) for part in _widened_parts(piece, axis, by, lows[index], highs[index])])
        else:
            told.append((index, Piece(_tuples(piece.sides), tuple(piece.memories))))
    return tuple(told)


def _widened_parts(piece, axis, by, lows, highs):
    """Return a piece, widened where the parts of its cross section are that are lowest and highest there."""
    whole = _flat(piece.sides, axis)
    low, high = piece.sides[axis]
    end, top = minus(low, by), plus(high, by)
    below = [(flat, (end, low)) for flat in lows if flat != whole]
    above = [(flat, (high, top)) for flat in highs if flat != whole]
    # What is lowest or highest all over its cross section is widened itself, else parts are added.
    side = (end if whole in lows else low, top if whole in highs else high)
    told = []
    for flat, part in [(whole, side)] + below + above:
        told.append(Piece(flat[:axis] + (part,) + flat[axis:], tuple(piece.memories)))
    return told


def pull_back(sides, axis, by, point):
    """Return a point inside the sides for one that is less than a ratio away from them along an axis."""
    low, high = sides[axis]
    place = point[axis]
    if compare(place, low) <= 0:
        place = times(HALF, plus(low, least_of((high, plus(place, by)))))
    elif compare(place, high) >= 0:
        place = times(HALF, plus(high, greatest_of((low, minus(place, by)))))
    told = list(point)
    told[axis] = place
    return tuple(told)


def is_inside(sides, point):
    """Tell whether a point is inside the sides."""
    for (low, high), place in zip(sides, point):
        if compare(place, low) <= 0 or compare(place, high) >= 0:
            return False
    return True


def moved_side(side, factor, shift):
    """Return the image of a side under x to factor * x + shift."""
    low, high = [plus(times(factor, end), shift) for end in side]
    return (low, high) if factor[0] > 0 else (high, low)


def with_side(sides, axis, side):
    """Return sides with another one along an axis."""
    return tuple([side if at == axis else tuple(other) for at, other in enumerate(sides)])


def count_below(places, one, with_equal):
    """Return how many of ascending ratios are below one, or at most one."""
    most = 1 if with_equal else 0
    first, last = 0, len(places)
    while first < last:
        middle = (first + last) // 2
        if compare(places[middle], one) < most:
            first = middle + 1
        else:
            last = middle
    return first


def _tuples(sides):
    return tuple([tuple(side) for side in sides])


def _flat(sides, axis):
    return tuple([tuple(side) for at, side in enumerate(sides) if at != axis])


def _masks_along(sides):
    """Return for each side the mask of all sides that it has points in common with."""
    ranks = ranks_of([end for side in sides for end in side])
    begun = [0] * len(ranks)
    ended = [0] * len(ranks)
    for index, (low, high) in enumerate(sides):
        begun[ranks[low]] += 1 << index
        ended[ranks[high]] += 1 << index
    begun_ahead = _sums_ahead(begun)
    ended_ahead = _sums_ahead(ended)
    # It meets those that begin below its high end, without those that end at its low end or below.
    return [begun_ahead[ranks[high]] - ended_ahead[ranks[low] + 1] for low, high in sides]


def _sums_ahead(numbers):
    """Return for each place the sum of the numbers ahead of it."""
    sums = []
    total = 0
    for number in numbers:
        sums.append(total)
        total += number
    return sums


def _claims_along(pieces, axis, ends, is_last):
    """Return for each piece the parts of its cross section in which its end is the first along an axis, or the last."""
    ranks = ranks_of(ends)
    sign = -1 if is_last else 1
    order = [index for _, index in sorted([(sign * ranks[end], index) for index, end in enumerate(ends)])]
    told = [[] for _ in pieces]
    for place, flat in first_claims([_flat(pieces[index].sides, axis) for index in order]):
        told[order[place]].append(flat)
    return told
