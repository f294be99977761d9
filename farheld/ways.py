"""Ways: what can come of the poses that a line of a keeping holds, in one tick.

A line is a triple (key, spans, ends), a key a triple (phase, state, memories). A way has for each mode a
BAND: lows and highs, forms that the mode is not below and not above. They are told by their numbers in
the frame; a high that came in as a threshold is marked, as no position is at it.
"""

from farheld.formsums import (
    constant_form, form_behind, greatest_gap, greatest_over, is_at_most, is_within, least_over, negative_form,
    scaled_form, sum_of_forms,
)
from farheld.motions import Change
from farheld.ratios import ZERO, compare, greatest_of, least_of, negative


class Way:
    """The next key, what the controller does, and the bands with their number among those of the line."""

    def __init__(self, key, motion, bands, number):
        self.key = key
        self.motion = motion
        self.bands = bands
        self.number = number


class View:
    """A look over the spans of a line, and how it cuts bands."""

    def __init__(self, look, spans):
        self.mode = look.mode
        self.thresholds = look.thresholds
        self.is_cutting = look.is_ascending(spans)
        self.cuts = {}


class Reach:
    """A line with its ways."""

    def __init__(self, frame, line):
        key, self._spans, self._ends = line
        self._phase, self._state, self._memories = key
        self._frame = frame
        plant = frame.world.plant
        self._factors = [row[self._phase] for row in plant.factors]
        self._pushes = plant.pushes
        self._changes = {}
        self._rooms = {}
        self._mode_rooms = {}
        self._ends_ahead = {}
        self._moved = {}

    def list_ways(self):
        """Return the ways in ascending order; of those that do not differ only the first."""
        frame = self._frame
        bands = [((frame.form_number(low),), ((frame.form_number(high), False),)) for low, high in self._ends]
        parts = [(tuple(bands), (), ())]
        for sensor in range(len(frame.world.sensors)):
            parts = self._parts_behind(sensor, parts)
        motions = frame.motions_of(self._state)
        phase = (self._phase + 1) % frame.world.period
        met = {}
        told = []
        for behind, said, memories in parts:
            number, places = met.setdefault((behind, memories), (len(met), {}))
            for at in self._list_places(said):
                motion = motions[at]
                if motion.place not in places:
                    places[motion.place] = True
                    told.append(Way((phase, motion.state, memories), motion, behind, number))
        return told

    def takes_in(self, way, line, number):
        """Tell whether a line with the way's key, which has this number, takes in what comes by the way."""
        case = (way.number, way.motion.kind, number)
        if case not in self._rooms:
            self._rooms[case] = self._rooms_for(way, line, number)
        rooms = self._rooms[case]
        if rooms is None:
            return False
        for (least, most), (constant, _) in zip(rooms, way.motion.steps):
            if compare(constant, least) < 0 or compare(constant, most) > 0:
                return False
        return True

    def image_of(self, way):
        """Return the line that is made of what comes by a way."""
        change = self._change_of(way.motion)
        ends = []
        for mode, step in enumerate(way.motion.steps):
            lows, highs = self._moved_band(mode, way.bands[mode])
            low = self._low_image(change, [sum_of_forms(form, step) for form in lows])
            ends.append((low, self._high_image(change, [sum_of_forms(form, step) for form in highs])))
        return (way.key, tuple(change.spans), tuple(ends))

    def _parts_behind(self, sensor, parts):
        """Return the parts (bands, words said, memories behind) into which the looks of a sensor cut parts."""
        if sensor in self._frame.lot:
            return [(bands, said + (None,), memories + (0,)) for bands, said, memories in parts]
        coder = self._frame.program.coders[sensor]
        views = [View(look, self._spans) for look in self._frame.looks_of(sensor, self._state)]
        told = []
        for bands, said, memories in parts:
            cut = [(bands, ())]
            for view in views:
                cut = [behind for one in cut for behind in self._looked(view, one)]
            for behind, places in cut:
                word, memory = coder.find_reply(self._state, self._memories[sensor], places)
                told.append((behind, said + (word,), memories + (memory,)))
        return told

    def _looked(self, view, part):
        """Return (bands, places) for each possible place at a look."""
        bands, places = part
        band = bands[view.mode]
        if band not in view.cuts:
            view.cuts[band] = self._cut_band(view, band)
        told = []
        for place, behind in view.cuts[band]:
            told.append((bands[:view.mode] + (behind,) + bands[view.mode + 1:], places + (place,)))
        return told

    def _cut_band(self, view, band):
        """Return (place, band behind it) for each possible place."""
        thresholds = view.thresholds
        many = len(thresholds)
        if not view.is_cutting:
            return [(place, band) for place in range(many + 1)]
        lows, highs = band
        frame = self._frame
        told = []
        for place in range(self._count_below(thresholds, lows), self._count_not_above(thresholds, highs) + 1):
            behind_lows = lows if place == 0 else lows + (frame.form_number(thresholds[place - 1]),)
            behind_highs = highs if place == many else highs + ((frame.form_number(thresholds[place]), True),)
            told.append((place, (behind_lows, behind_highs)))
        return told

    def _count_below(self, thresholds, lows):
        """Return how many of ascending thresholds are at most some low; no place ahead of them is possible."""
        first = 0
        for number in lows:
            last = len(thresholds)
            while first < last:
                middle = (first + last) // 2
                if is_at_most(thresholds[middle], self._frame.forms[number], self._spans):
                    first = middle + 1
                else:
                    last = middle
        return first

    def _count_not_above(self, thresholds, highs):
        """Return how many of ascending thresholds some position below all highs can be at or above."""
        last = len(thresholds)
        for number, is_threshold in highs:
            first = 0
            while first < last:
                middle = (first + last) // 2
                gap, _ = greatest_gap(self._frame.forms[number], thresholds[middle], self._spans)
                if gap < 0 or gap == 0 and is_threshold:
                    last = middle
                else:
                    first = middle + 1
        return last

    def _list_places(self, said):
        """Return the places of the moves behind these words (None: of a liar), by ascending outcomes."""
        controller = self._frame.program.controller
        heeds, _ = controller.rows[self._state]
        places = [0]
        for sensor in heeds:
            heard = self._frame.outcomes_of(sensor, self._phase, said[sensor])
            many = controller.outcomes[sensor]
            places = [place * many + outcome for place in places for outcome in heard]
        return places

    def _change_of(self, motion):
        if motion.kind not in self._changes:
            self._changes[motion.kind] = Change(motion.changes, self._spans)
        return self._changes[motion.kind]

    def _rooms_for(self, way, line, number):
        """Return by mode between which constants of the step a line takes a way in, None if its spans do not."""
        _, spans, ends = line
        change = self._change_of(way.motion)
        if not all([is_within(span, other) for span, other in zip(change.spans, spans)]):
            return None
        rooms = []
        for mode, both in enumerate(ends):
            case = (mode, way.bands[mode], way.motion.kind, number)
            if case not in self._mode_rooms:
                ends_case = (mode, way.motion.kind, number)
                if ends_case not in self._ends_ahead:
                    self._ends_ahead[ends_case] = [_end_ahead(end, change, way.motion.steps[mode]) for end in both]
                self._mode_rooms[case] = self._room_for(mode, way.bands[mode], self._ends_ahead[ends_case])
            rooms.append(self._mode_rooms[case])
        return rooms

    def _room_for(self, mode, band, ends):
        low, high = ends
        lows, highs = self._moved_band(mode, band)
        least = least_of([greatest_gap(low, form, self._spans) for form in lows])
        return (least, greatest_of([negative(greatest_gap(form, high, self._spans)) for form in highs]))

    def _moved_band(self, mode, band):
        """Return the forms that a mode is not below and not above behind the tick, ahead of its step."""
        lows, marked = band
        highs = [number for number, _ in marked]
        if self._factors[mode][0] < 0:
            lows, highs = highs, lows
        push = self._pushes[mode]
        low_forms = [self._moved_form(mode, number, negative(push)) for number in lows]
        return (low_forms, [self._moved_form(mode, number, push) for number in highs])

    def _moved_form(self, mode, number, push):
        case = (mode, number, push)
        if case not in self._moved:
            moved = scaled_form(self._frame.forms[number], self._factors[mode])
            self._moved[case] = sum_of_forms(moved, constant_form(push))
        return self._moved[case]

    def _high_image(self, change, forms):
        best, bound = None, ZERO
        for form in forms:
            greatest = greatest_over(form, self._spans)
            if best is None or compare(greatest, bound) < 0:
                best, bound = form, greatest
        return best if change.leaves(best) else constant_form(bound)

    def _low_image(self, change, forms):
        best, bound = None, ZERO
        for form in forms:
            least = least_over(form, self._spans)
            if best is None or compare(least, bound) > 0:
                best, bound = form, least
        return best if change.leaves(best) else constant_form(bound)


def _end_ahead(end, change, step):
    """Return what an end of the next line is ahead of the changes, less the step without its constant."""
    _, parts = step
    return sum_of_forms(form_behind(end, change.nexts), negative_form((ZERO, parts)))
