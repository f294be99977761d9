"""Tellings: which word is said for which message, use by use, and the trees that show it."""

from farheld.counts import deals_behind, trimmed_deal
from farheld.errors import ManyMessages
from farheld.ratios import is_whole
from farheld.uses import count_outcomes


class Telling:
    """A way to tell messages up to a start, whatever outcomes come."""

    def __init__(self, uses, many, start=1):
        self.uses = tuple([tuple([tuple(heard) for heard in use]) for use in uses])
        self.many = many
        self.start = start
        self._deals = deals_behind(self.uses, start)[::-1]
        greatest = sum(self._deals[0]) if self.uses else start
        if many > greatest:
            raise ManyMessages(greatest)

    def dealt_at(self, at, size):
        """Return how many messages say each word in a use if so many are left."""
        return trimmed_deal(self._deals[at], size)

    def size_after(self, at, size, outcome):
        """Return how many messages are left behind an outcome of a use."""
        dealt = self.dealt_at(at, size)
        return sum([many for heard, many in zip(self.uses[at], dealt) if outcome in heard])

    def place_after(self, at, size, place, outcome):
        """Return the place of a message behind an outcome, None if it is ruled out."""
        first = 0
        new = 0
        for heard, many in zip(self.uses[at], self.dealt_at(at, size)):
            if first <= place < first + many:
                return new + place - first if outcome in heard else None
            if outcome in heard:
                new += many
            first += many
        return None

    def messages_left(self, outcomes):
        """Return the messages left behind the outcomes of the first uses."""
        left = tuple(range(self.many))
        for at, outcome in enumerate(outcomes):
            words = words_of(self.dealt_at(at, len(left)))
            heard = self.uses[at]
            left = tuple([message for message, word in zip(left, words) if outcome in heard[word]])
        return left

    def word_said(self, outcomes, message):
        """Return a message's word in the next use, None if it is ruled out or no use is left."""
        left = self.messages_left(outcomes)
        if len(outcomes) >= len(self.uses) or message not in left:
            return None
        words = words_of(self.dealt_at(len(outcomes), len(left)))
        return words[left.index(message)]

    def message_of(self, outcomes):
        """Return the least message left, 0 if none is left."""
        left = self.messages_left(outcomes)
        return left[0] if left else 0


def words_of(deal):
    """Return the word of each place of a deal."""
    words = []
    for word, many in enumerate(deal):
        words.extend([word] * many)
    return words


def tree_of(telling):
    """Return the tree of a Telling."""
    return _tree_from(telling, 0, telling.many)


def _tree_from(telling, at, size):
    if at == len(telling.uses):
        return ()
    branches = []
    for outcome in range(count_outcomes(telling.uses[at])):
        left = telling.size_after(at, size, outcome)
        branches.append(_tree_from(telling, at + 1, left) if left > 0 else None)
    return (tuple(words_of(telling.dealt_at(at, size))), tuple(branches))


def tree_fault(uses, many, start, tree):
    """Return the first fault of a tree and the outcomes that lead to it, None if it is right."""
    return _fault_below(uses, many, start, tree, ())


def _fault_below(uses, size, start, tree, path):
    if len(path) == len(uses):
        if not isinstance(tree, tuple) or len(tree) > 0:
            return ("shape", path)
        return ("left", path) if size > start else None
    use = uses[len(path)]
    if not _is_couple(use, size, tree):
        return ("shape", path)
    words, branches = tree
    for outcome, branch in enumerate(branches):
        if branch is None:
            continue
        left = len([word for word in words if outcome in use[word]])
        fault = _fault_below(uses, left, start, branch, path + (outcome,))
        if fault is not None:
            return fault
    return None


def _is_couple(use, size, tree):
    """Tell whether a tree has words for so many messages and branches just where they can come out."""
    if not isinstance(tree, tuple) or len(tree) != 2:
        return False
    words, branches = tree
    if not isinstance(words, tuple) or not isinstance(branches, tuple):
        return False
    if len(words) != size or len(branches) != count_outcomes(use):
        return False
    if not all([is_whole(word, 0, len(use) - 1) for word in words]):
        return False
    told = [outcome for word in sorted(set(words)) for outcome in use[word]]
    return all([(branch is not None) == (outcome in told) for outcome, branch in enumerate(branches)])
