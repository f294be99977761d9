"""Sights: how the looks of one coder part the pieces of a cloud.

A sight is made for the rule of one state, over the registers of a cloud. Along each axis the
values of the thresholds part the line into gaps; the rule's reply depends on the gaps alone.
"""

from farheld.boxes import count_below
from farheld.claims import joined_slabs
from farheld.ranks import ascending


class Sight:
    """The gaps of each axis and the replies in them."""

    def __init__(self, coder, cloud):
        recall, _, replies = coder.rules[cloud.state]
        looks = coder.find_cuts(cloud.state, cloud.registers)
        strides = _strides_of([len(values) + 1 for _, values in looks])
        self.replies = replies
        self.recalled = len(replies) // coder.memories if recall else 0
        self.base = 0
        self.cuts = []
        self.shares = []
        for (mode, values), stride in zip(looks, strides):
            if mode not in cloud.modes:
                self.base += stride * count_below(values, cloud.positions[mode], True)
        for mode in cloud.modes:
            seen = [(values, stride) for (look, values), stride in zip(looks, strides) if look == mode]
            cuts = ascending([value for values, _ in seen for value in values])
            self.cuts.append(cuts)
            self.shares.append(_shares_of(cuts, seen))
        # Pieces share their ends with others, so each end is searched among the cuts only once.
        self._counts = [{} for _ in cloud.modes]

    def parts_of(self, sides, memory, label_of):
        """Return (label, part of the sides) by what the replies are; parts without a label are left out.

        The label of a reply is label_of(reply, memory), None for none.
        """
        spans = []
        for axis, (low, high) in enumerate(sides):
            _, first = self._count_at(axis, low)
            last, _ = self._count_at(axis, high)
            spans.append((first, last + 1))
        told = []
        for label, gaps in self._labelled(spans, 0, self.base + memory * self.recalled, memory, label_of):
            told.append((label, self._box_of(gaps, spans, sides)))
        return told

    def _count_at(self, axis, end):
        """Return how many cuts along an axis are below an end and how many are at most at it."""
        known = self._counts[axis]
        if end not in known:
            cuts = self.cuts[axis]
            below = count_below(cuts, end, False)
            is_cut = below < len(cuts) and cuts[below] == end
            known[end] = (below, below + 1 if is_cut else below)
        return known[end]

    def _labelled(self, spans, axis, place, memory, label_of):
        """Return (label, gaps) for the gaps of this axis and the later ones, joined where labels are equal."""
        if axis == len(spans):
            label = label_of(self.replies[place], memory)
            return [] if label is None else [(label, ())]
        first, last = spans[axis]
        if last - first == 1:
            items = self._labelled(spans, axis + 1, place + self.shares[axis][first], memory, label_of)
            return [(label, ((first, last),) + gaps) for label, gaps in items]
        slabs = []
        for gap in range(first, last):
            ahead = place + self.shares[axis][gap]
            slabs.append(((gap, gap + 1), self._labelled(spans, axis + 1, ahead, memory, label_of)))
        return joined_slabs(slabs)

    def _box_of(self, gaps, spans, sides):
        """Return the part of sides that lies in gaps, (first, last and one more) along each axis."""
        if gaps == tuple(spans):
            return sides
        told = []
        for axis, (first, last) in enumerate(gaps):
            low, high = sides[axis]
            if first > spans[axis][0]:
                low = self.cuts[axis][first - 1]
            if last < spans[axis][1]:
                high = self.cuts[axis][last - 1]
            told.append((low, high))
        return tuple(told)


def _strides_of(sizes):
    """Return by how much a place at each look moves the place of the reply; the first look leads."""
    strides = []
    stride = 1
    for size in reversed(list(sizes)):
        strides.append(stride)
        stride *= size
    return strides[::-1]


def _shares_of(cuts, seen):
    """Return for each gap between the cuts what the looks along an axis add to the place of the reply."""
    added = {}
    for values, stride in seen:
        for value in values:
            added[value] = added.get(value, 0) + stride
    shares = [0]
    for cut in cuts:
        shares.append(shares[-1] + added[cut])
    return shares
