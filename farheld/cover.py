"""What boxes cover together, each part counted once."""

from farheld.ranks import ascending
from farheld.ratios import ONE, ZERO, minus, plus, times
from farheld.sweeping import events_of, walk_slabs


def covered_volume(boxes):
    """Return the volume that boxes cover; without axes it is 1 if there is a box."""
    if not boxes:
        return ZERO
    axes = len(boxes[0])
    if axes == 0:
        return ONE
    stops, spans = _spans_along(boxes, 0)
    if axes == 1:
        return _covered_length(stops, spans)
    if axes == 2:
        return _covered_area(boxes, stops, spans)
    total = ZERO
    for (low, high), places in walk_slabs(spans):
        section = covered_volume([boxes[place][1:] for place in places])
        total = plus(total, times(section, minus(stops[high], stops[low])))
    return total


def _spans_along(boxes, axis):
    """Return the ends along an axis in ascending order, and (place of a box, its side by places of ends)."""
    stops = ascending([end for box in boxes for end in box[axis]])
    ranks = {stop: rank for rank, stop in enumerate(stops)}
    return (stops, [(place, (ranks[box[axis][0]], ranks[box[axis][1]])) for place, box in enumerate(boxes)])


def _covered_length(stops, spans):
    total = ZERO
    end = 0
    for low, high in sorted([span for _, span in spans]):
        if high > end:
            total = plus(total, minus(stops[high], stops[max(low, end)]))
            end = high
    return total


def _covered_area(boxes, stops, spans):
    """Return the area of boxes of two axes, slab by slab, by what is covered on the second axis."""
    line_stops, line_spans = _spans_along(boxes, 1)
    line = Line(line_stops)
    ends, opened, closed = events_of(spans)
    total = ZERO
    for end in ends[:-1]:
        for places, by in ((closed.get(end, []), -1), (opened.get(end, []), 1)):
            for place in places:
                _, (low, high) = line_spans[place]
                line.cover(low, high, by)
        total = plus(total, times(line.covered(), minus(stops[end + 1], stops[end])))
    return total


class Line:
    """A line between ascending stops of which stretches are covered, perhaps more than once.

    Knot 1 is the whole line, and below a knot n lie 2n and 2n + 1, its halves. A stretch is
    counted in as few knots as make it up; a knot's length is what its own and lower knots cover.
    """

    def __init__(self, stops):
        self.stops = stops
        self.counts = [0] * (4 * len(stops))
        self.lengths = [ZERO] * (4 * len(stops))

    def covered(self):
        """Return the length that is covered."""
        return self.lengths[1]

    def cover(self, low, high, by):
        """Cover the stretch between two stops once more (1) or once less (-1)."""
        self._cover_below(1, 0, len(self.stops) - 1, low, high, by)

    def _cover_below(self, knot, first, last, low, high, by):
        if high <= first or last <= low:
            return
        if low <= first and last <= high:
            self.counts[knot] += by
        else:
            middle = (first + last) // 2
            self._cover_below(2 * knot, first, middle, low, high, by)
            self._cover_below(2 * knot + 1, middle, last, low, high, by)
        if self.counts[knot] > 0:
            self.lengths[knot] = minus(self.stops[last], self.stops[first])
        elif last - first == 1:
            self.lengths[knot] = ZERO
        else:
            self.lengths[knot] = plus(self.lengths[2 * knot], self.lengths[2 * knot + 1])
