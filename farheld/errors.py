"""All errors of the package; each one keeps the attributes that it is created with."""


class HeldError(ValueError):
    """The error under which all others stand."""


class BadRatio(HeldError):
    """A part of a ratio is no whole number, or a bottom is 0."""
    def __init__(self, what):
        self.what = what


class BadPlant(HeldError):
    """A plant cannot be made of what was given."""
    def __init__(self, what, mode):
        self.what = what
        self.mode = mode


class NoMode(HeldError):
    """The plant has no such mode."""
    def __init__(self, mode):
        self.mode = mode


class BadPhase(HeldError):
    """A phase is no whole number of 0 or more."""
    def __init__(self, phase):
        self.phase = phase


class BadTicks(HeldError):
    """A number of ticks is not within its limits."""
    def __init__(self, ticks):
        self.ticks = ticks


class BadTimes(HeldError):
    """A period cannot be repeated so many times."""
    def __init__(self, repeats):
        self.repeats = repeats


class BadUnit(HeldError):
    """A unit is no ratio above 0."""
    def __init__(self, unit):
        self.unit = unit


class BadChannel(HeldError):
    """A channel cannot be made of what was given."""
    def __init__(self, what, phase, word):
        self.what = what
        self.phase = phase
        self.word = word


class NoWord(HeldError):
    """The channel has no such word."""
    def __init__(self, word):
        self.word = word


class BadOrder(HeldError):
    """An order does not name each thing once."""
    def __init__(self, what):
        self.what = what


class BadPeriod(HeldError):
    """Two channels have unlike periods."""
    def __init__(self, one, other):
        self.one = one
        self.other = other


class BadLots(HeldError):
    """A list of lots is not as it must be."""
    def __init__(self, index, what):
        self.index = index
        self.what = what


class BadSensor(HeldError):
    """A sensor cannot be made of what was given."""
    def __init__(self, what):
        self.what = what


class BadWorld(HeldError):
    """A world cannot be made of what was given."""
    def __init__(self, what, sensor):
        self.what = what
        self.sensor = sensor


class NoSensor(HeldError):
    """The world has no such sensor."""
    def __init__(self, sensor):
        self.sensor = sensor


class BadOutcomes(HeldError):
    """No row of outcomes, or no number of one."""


class BadText(HeldError):
    """A text cannot be read; row tells where."""
    def __init__(self, row, what):
        self.row = row
        self.what = what


class Rising(HeldError):
    """The values of a problem rise without bound along the ray."""
    def __init__(self, ray):
        self.ray = ray


class BadBase(HeldError):
    """A base is less than 1."""


class CountFull(HeldError):
    """Counts are no longer told exactly behind so many periods."""
    def __init__(self, tried):
        self.tried = tried


class ManyMessages(HeldError):
    """More messages than can be told."""
    def __init__(self, greatest):
        self.greatest = greatest


class Barred(HeldError):
    """The world cannot be kept; the bar says why."""
    def __init__(self, bar):
        self.bar = bar


class LastMode(HeldError):
    """The only mode cannot be left out."""


class NoOutcome(HeldError):
    """The outcome cannot come of the word."""
    def __init__(self, word, outcome):
        self.word = word
        self.outcome = outcome


class LastOutcome(HeldError):
    """The only outcome of a word cannot be taken from it."""
    def __init__(self, word):
        self.word = word


class NoLot(HeldError):
    """The world has no such lot."""
    def __init__(self, lot):
        self.lot = lot


class TooNear(HeldError):
    """So many periods are not enough for a split."""
    def __init__(self, tried):
        self.tried = tried


class BadProgram(HeldError):
    """A program cannot be made of what was given."""
    def __init__(self, who, what):
        self.who = who
        self.what = what


class NoEntry(HeldError):
    """A program has no such entry."""
    def __init__(self, what):
        self.what = what


class BadLate(HeldError):
    """A lateness is not within its limits."""
    def __init__(self, late):
        self.late = late


class BadStart(HeldError):
    """A start is not within the starts of the plant."""
    def __init__(self, mode):
        self.mode = mode


class BadTick(HeldError):
    """A tick cannot be played."""
    def __init__(self, what):
        self.what = what


class BadRun(HeldError):
    """A run has a fault at that tick."""
    def __init__(self, tick, what):
        self.tick = tick
        self.what = what


class Unheard(HeldError):
    """No part of a cloud gives these outcomes."""
    def __init__(self, outcomes):
        self.outcomes = outcomes


class BadPoint(HeldError):
    """No point inside a piece of the cloud."""


class NoBar(HeldError):
    """A bar does not show what it says."""
    def __init__(self, what):
        self.what = what


class BadBound(HeldError):
    """A bound is no ratio above 0."""
    def __init__(self, bound):
        self.bound = bound


class TooLong(HeldError):
    """More ticks than these would be needed."""
    def __init__(self, ticks):
        self.ticks = ticks


class BadSplits(HeldError):
    """The splits are not those of the lots of the world."""
    def __init__(self, place):
        self.place = place


class TooLarge(HeldError):
    """A compiled program would be too large."""


class NotQuiet(HeldError):
    """The moves of this state have unlike steps."""
    def __init__(self, state):
        self.state = state


class NotLink(HeldError):
    """The world is no link."""
    def __init__(self, what):
        self.what = what


class NoLeast(HeldError):
    """There is no least bound."""


class TooWide(HeldError):
    """A coder would need too many memories or thresholds."""
    def __init__(self, late):
        self.late = late


class NoFit(HeldError):
    """The program does not fit the world."""
    def __init__(self, fault):
        self.fault = fault


class NotBelow(HeldError):
    """The bound is not below the least bound."""
    def __init__(self, least):
        self.least = least


class TooFar(HeldError):
    """The bound is not passed in fewer ticks than these."""
    def __init__(self, ticks):
        self.ticks = ticks


class BadKeeping(HeldError):
    """A keeping cannot be made of what was given."""
    def __init__(self, what, index):
        self.what = what
        self.index = index


class NoGroup(HeldError):
    """No lot of sensors that lies within one of the world."""


class NotClosed(HeldError):
    """An anchor does not take in what comes to it."""
    def __init__(self, key):
        self.key = key


class NotDone(HeldError):
    """Lines still wait when so many have been taken."""
    def __init__(self, most):
        self.most = most


class BadGroup(HeldError):
    """No group of sensors of the world."""


class BadPrices(HeldError):
    """The prices of the sensors are not as they must be."""
    def __init__(self, sensor):
        self.sensor = sensor


class BadMany(HeldError):
    """The world does not have so many sensors."""
    def __init__(self, many):
        self.many = many


class BadLiars(HeldError):
    """No lot of the world has all these liars."""


class BadDeed(HeldError):
    """A desk does not know such a deed."""
    def __init__(self, what):
        self.what = what


class NotNow(HeldError):
    """A deed waits for the begin of a block."""


class NoPlan(HeldError):
    """The desk is not under way."""


class NoDeed(HeldError):
    """No deed stands that could be taken back."""
