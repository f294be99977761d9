"""Plants: modes that grow by factors, phase by phase, and are pushed."""

from farheld.errors import BadPhase, BadPlant, BadTicks, BadTimes, BadUnit, NoMode
from farheld.ratios import ZERO, is_ratio, is_whole, make_ratio, negative, size_of, times
from farheld.sequences import is_sequence

MOST_MODES = 3
MOST_PHASES = 4
MOST_TICKS = 1000


class Plant:
    """One to three modes with their factors, pushes and starts."""

    def __init__(self, factors, pushes, starts):
        _check_factors(factors)
        _check_lengths(pushes, len(factors), "pushes", "push", 1)
        _check_lengths(starts, len(factors), "starts", "start", 0)
        self.factors = tuple([tuple(row) for row in factors])
        self.pushes = tuple(pushes)
        self.starts = tuple(starts)
        self.modes = len(self.factors)
        self.period = len(self.factors[0])
        self.growing = tuple([mode for mode in range(self.modes) if self.grows(mode)])

    def __eq__(self, other):
        if not isinstance(other, Plant):
            return False
        return self.factors == other.factors and self.pushes == other.pushes and self.starts == other.starts

    def carried(self, mode, phase, ticks):
        """Return the product of the factors, with their signs, of so many ticks from a phase on."""
        self._check_stretch(mode, phase, ticks)
        top, bottom = 1, 1
        # One reduction at the end is much cheaper than one in each tick.
        for factor in self._factors_met(mode, phase, ticks):
            top *= factor[0]
            bottom *= factor[1]
        return make_ratio(top, bottom)

    def growth(self, mode, phase, ticks):
        """Return the size of what is carried."""
        return size_of(self.carried(mode, phase, ticks))

    def gathered(self, mode, phase, ticks):
        """Return the greatest size that pushes alone give a mode in so many ticks."""
        self._check_stretch(mode, phase, ticks)
        top, bottom = 0, 1
        for factor in self._factors_met(mode, phase, ticks):
            bottom *= factor[1]
            top = top * abs(factor[0]) + bottom
        return times(make_ratio(top, bottom), self.pushes[mode])

    def grows(self, mode):
        """Tell whether a mode's growth over one period is 1 or more."""
        self.check_mode(mode)
        top, bottom = self.growth(mode, 0, self.period)
        return top >= bottom

    def with_unit(self, mode, unit):
        """Return the plant with the lengths of a mode multiplied by a unit."""
        self.check_mode(mode)
        if not is_ratio(unit) or unit[0] <= 0:
            raise BadUnit(unit)
        pushes = list(self.pushes)
        starts = list(self.starts)
        pushes[mode] = times(pushes[mode], unit)
        starts[mode] = times(starts[mode], unit)
        return Plant(self.factors, pushes, starts)

    def with_sign(self, mode, phase):
        """Return the plant in which a factor has the other sign."""
        self.check_mode(mode)
        check_phase(phase)
        rows = [list(row) for row in self.factors]
        at = phase % self.period
        rows[mode][at] = negative(rows[mode][at])
        return Plant(rows, self.pushes, self.starts)

    def turned(self, phases):
        """Return the plant that begins so many phases later."""
        return Plant([turned_row(row, phases) for row in self.factors], self.pushes, self.starts)

    def repeated(self, repeats):
        """Return the plant with its period so many times as long."""
        return Plant([repeated_row(row, repeats) for row in self.factors], self.pushes, self.starts)

    def check_mode(self, mode):
        """Raise NoMode unless this is a mode of the plant."""
        if not is_whole(mode, 0, self.modes - 1):
            raise NoMode(mode)

    def _check_stretch(self, mode, phase, ticks):
        self.check_mode(mode)
        check_phase(phase)
        check_ticks(ticks)

    def _factors_met(self, mode, phase, ticks):
        row = self.factors[mode]
        first = phase % self.period
        return [row[tick % self.period] for tick in range(first, first + ticks)]


def check_phase(phase):
    """Raise BadPhase unless this is a whole number of 0 or more."""
    if not is_whole(phase, 0):
        raise BadPhase(phase)


def check_ticks(ticks):
    """Raise BadTicks unless this is a whole number from 0 to 1000."""
    if not is_whole(ticks, 0, MOST_TICKS):
        raise BadTicks(ticks)


def turned_row(row, phases):
    """Return a row of phases that begins so many phases later."""
    check_phase(phases)
    first = phases % len(row)
    return tuple(row[first:]) + tuple(row[:first])


def repeated_row(row, repeats):
    """Return a row of phases so many times as long."""
    if not is_whole(repeats, 1) or repeats * len(row) > MOST_PHASES:
        raise BadTimes(repeats)
    return tuple(row) * repeats


def _check_factors(factors):
    if not is_sequence(factors, 1, MOST_MODES):
        raise BadPlant("factors", 0)
    for mode, row in enumerate(factors):
        if not is_sequence(row, 1, MOST_PHASES) or len(row) != len(factors[0]):
            raise BadPlant("row", mode)
        if not all([is_ratio(factor) and factor != ZERO for factor in row]):
            raise BadPlant("factor", mode)


def _check_lengths(lengths, modes, all_word, one_word, least):
    if not is_sequence(lengths, modes, modes):
        raise BadPlant(all_word, 0)
    for mode, length in enumerate(lengths):
        if not is_ratio(length) or length[0] < least:
            raise BadPlant(one_word, mode)
