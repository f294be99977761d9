"""Claims: boxes are dealt out in an order, each point to the first box that it is inside."""

from heapq import heappop, heappush

from farheld.ranks import ascending
from farheld.sweeping import events_of, walk_slabs


def first_claims(boxes):
    """Return (place of a box, part of it) for disjoint parts that together cover what the boxes cover.

    Each part lies in no box of an earlier place, but for points on ends.
    """
    if not boxes:
        return []
    ends = [ascending([end for box in boxes for end in box[axis]]) for axis in range(len(boxes[0]))]
    ranks = [{end: rank for rank, end in enumerate(row)} for row in ends]
    told = []
    for box in boxes:
        told.append(tuple([(ranks[axis][low], ranks[axis][high]) for axis, (low, high) in enumerate(box)]))
    claims = []
    for place, spans in _claims_from(told, list(range(len(told))), 0):
        claims.append((place, tuple([(ends[axis][low], ends[axis][high]) for axis, (low, high) in enumerate(spans)])))
    return claims


def joined_slabs(slabs):
    """Return (thing, spans) for ((low, high), list of (thing, later spans)) in ascending order.

    What goes on from one slab to the next with the same later spans is told once.
    """
    told = []
    begun = {}
    last = None
    for (low, high), items in slabs:
        going = {}
        for item in items:
            goes_on = last == low and item in begun
            going[item] = begun[item] if goes_on else low
        told.extend(_closed(begun, going, last))
        begun, last = going, high
    told.extend(_closed(begun, {}, last))
    return told


def _claims_from(boxes, members, axis):
    """Return the claims of some boxes, places ascending, on this axis and the later ones."""
    if axis == len(boxes[0]):
        return [(members[0], ())]
    spans = [(place, boxes[place][axis]) for place in members]
    if axis == len(boxes[0]) - 1:
        return _claims_on_line(spans)
    slabs = []
    for slab, active in walk_slabs(spans):
        slabs.append((slab, _claims_from(boxes, active, axis + 1)))
    return joined_slabs(slabs)


def _claims_on_line(spans):
    """Return the claims of (place, (low, high)) on one axis."""
    stops, begins, _ = events_of(spans)
    highs = {place: high for place, (_, high) in spans}
    waiting = []
    runs = []
    for at, stop in enumerate(stops[:-1]):
        for place in begins.get(stop, []):
            heappush(waiting, place)
        while waiting and highs[waiting[0]] <= stop:
            heappop(waiting)
        if not waiting:
            continue
        if runs and runs[-1][0] == waiting[0] and runs[-1][2] == stop:
            runs[-1] = (waiting[0], runs[-1][1], stops[at + 1])
        else:
            runs.append((waiting[0], stop, stops[at + 1]))
    return [(place, ((low, high),)) for place, low, high in runs]


def _closed(begun, going, end):
    """Return the items that do not go on, with where they began and where they end."""
    told = []
    for item, low in begun.items():
        if going.get(item) != low:
            thing, spans = item
            told.append((thing, ((low, end),) + spans))
    return told
