"""Channels: which outcomes can come of which word, phase by phase."""

from farheld.errors import BadChannel, BadOrder, BadPeriod, NoWord
from farheld.plants import MOST_PHASES, check_phase, repeated_row, turned_row
from farheld.ratios import is_whole
from farheld.sequences import is_ascending, is_order, is_sequence, places_of

MOST_WORDS = 12
MOST_OUTCOMES = 12


class Channel:
    """A table with a row for each phase: for each word the outcomes that can come of it."""

    def __init__(self, outcomes, table):
        if not is_whole(outcomes, 1, MOST_OUTCOMES):
            raise BadChannel("outcomes", 0, 0)
        if not is_sequence(table, 1, MOST_PHASES):
            raise BadChannel("phases", 0, 0)
        for phase, words in enumerate(table):
            _check_row(outcomes, phase, words, table[0])
        self.outcomes = outcomes
        self.table = tuple([tuple([tuple(heard) for heard in row]) for row in table])
        self.words = len(self.table[0])
        self.period = len(self.table)

    def __eq__(self, other):
        if not isinstance(other, Channel):
            return False
        return self.outcomes == other.outcomes and self.table == other.table

    @staticmethod
    def clean(words, period=1):
        """Return the channel in which outcome w alone comes of word w."""
        if not is_whole(words, 1, MOST_WORDS):
            raise BadChannel("outcomes", 0, 0)
        if not is_whole(period, 1, MOST_PHASES):
            raise BadChannel("phases", 0, 0)
        return Channel(words, [[(word,) for word in range(words)]] * period)

    def heard(self, phase, word):
        """Return the outcomes of a word."""
        check_phase(phase)
        self._check_word(word)
        return self.table[phase % self.period][word]

    def common(self, phase, one, other):
        """Return the outcomes that can come of both words."""
        check_phase(phase)
        self._check_word(one)
        self._check_word(other)
        return _shared(self._row_at(phase), one, other)

    def kind_at(self, phase):
        """Return "dead", "hazy" or "solid"."""
        return use_kind(self._row_at(phase))

    def parted_words(self, phase):
        """Return the least two words without a common outcome, None if there are none."""
        return parted_in(self._row_at(phase))

    def undominated(self, phase):
        """Return the words whose outcomes do not include all those of another word."""
        return undominated_in(self._row_at(phase))

    def turned(self, phases):
        """Return the channel that begins so many phases later."""
        return Channel(self.outcomes, turned_row(self.table, phases))

    def repeated(self, repeats):
        """Return the channel with its period so many times as long."""
        return Channel(self.outcomes, repeated_row(self.table, repeats))

    def renamed(self, words, outcomes):
        """Return the channel with its words and outcomes in other orders."""
        if not is_order(words, self.words):
            raise BadOrder("words")
        if not is_order(outcomes, self.outcomes):
            raise BadOrder("outcomes")
        names = places_of(outcomes)
        table = []
        for row in self.table:
            table.append([sorted([names[outcome] for outcome in row[word]]) for word in words])
        return Channel(self.outcomes, table)

    def silenced(self):
        """Return the channel in which every outcome can come of every word."""
        row = [list(range(self.outcomes))] * self.words
        return Channel(self.outcomes, [row] * self.period)

    def _row_at(self, phase):
        check_phase(phase)
        return self.table[phase % self.period]

    def _check_word(self, word):
        if not is_whole(word, 0, self.words - 1):
            raise NoWord(word)


def beside(one, other):
    """Return the channel that uses both channels at once."""
    if one.period != other.period:
        raise BadPeriod(one.period, other.period)
    if one.outcomes * other.outcomes > MOST_OUTCOMES:
        raise BadChannel("outcomes", 0, 0)
    if one.words * other.words > MOST_WORDS:
        raise BadChannel("words", 0, 0)
    table = []
    for phase in range(one.period):
        table.append(_rows_beside(one.table[phase], other.table[phase], other.outcomes))
    return Channel(one.outcomes * other.outcomes, table)


def use_kind(row):
    """Return "dead", "hazy" or "solid" for a row of a table."""
    if [outcome for outcome in row[0] if all([outcome in heard for heard in row])]:
        return "dead"
    return "hazy" if parted_in(row) is None else "solid"


def parted_in(row):
    """Return the least two words of a row of a table without a common outcome, else None."""
    for one in range(len(row)):
        for other in range(one + 1, len(row)):
            if not _shared(row, one, other):
                return (one, other)
    return None


def undominated_in(row):
    """Return the words of a row of a table whose outcomes do not include all those of another."""
    return tuple([word for word in range(len(row)) if not _is_dominated(row, word)])


def _is_dominated(row, word):
    for other in range(len(row)):
        if all([outcome in row[word] for outcome in row[other]]):
            # Of words with the same outcomes the least one stays.
            if len(row[other]) < len(row[word]) or other < word:
                return True
    return False


def _shared(row, one, other):
    return tuple([outcome for outcome in row[one] if outcome in row[other]])


def _rows_beside(row, other_row, many):
    told = []
    for heard in row:
        for other_heard in other_row:
            told.append([outcome * many + other for outcome in heard for other in other_heard])
    return told


def _check_row(outcomes, phase, row, first_row):
    if not is_sequence(row, 1, MOST_WORDS) or len(row) != len(first_row):
        raise BadChannel("words", phase, 0)
    for word, heard in enumerate(row):
        if not is_ascending(heard, 1, outcomes, outcomes):
            raise BadChannel("row", phase, word)
