"""What several tests share: worlds to begin with, and ways to look at errors and results."""

import unittest

from farheld.channels import Channel
from farheld.plants import Plant
from farheld.worlds import Sensor, World

# Things that are no sequence, and things that are no whole number.
NO_SEQUENCES = (None, 3, "012", "", {0: 1}, {0, 1}, b"ab", True, range(2))
NO_WHOLES = (None, True, False, "1", 1.0, (1, 1), [1])
NO_RATIOS = (None, True, 1, "1", 0.5, [1, 2], (1,), (1, 2, 3), (2, 4), (1, 0), (1, -2), (0, 2), (True, 1), (1, True))


class HeldTest(unittest.TestCase):
    def raises(self, error, attributes, call, *arguments, **named):
        """Assert that a call raises exactly this error with exactly these attributes."""
        with self.assertRaises(error) as caught:
            call(*arguments, **named)
        self.assertIs(type(caught.exception), error)
        self.assertEqual(caught.exception.__dict__, attributes)
        for name, value in attributes.items():
            self.assertIs(type(getattr(caught.exception, name)), type(value))

    def are_tuples(self, thing):
        """Assert that a told sequence is a tuple, and so are the sequences in it."""
        self.assertNotIsInstance(thing, list)
        if isinstance(thing, tuple):
            for part in thing:
                self.are_tuples(part)


def whole(*numbers):
    """Return whole numbers as ratios."""
    return tuple([(number, 1) for number in numbers])


def as_lists(thing, keep_ratios=True):
    """Return sequences with lists in the place of tuples, ratios as they are."""
    if isinstance(thing, (list, tuple)):
        if keep_ratios and len(thing) == 2 and all(type(part) is int for part in thing) and thing[1] > 0:
            return thing
        return [as_lists(part, keep_ratios) for part in thing]
    return thing


def plain_plant(*factors, push=(1, 1), start=(0, 1)):
    """Return a plant of period 1 with these factors."""
    return Plant([[factor] for factor in factors], [push] * len(factors), [start] * len(factors))


def clean_world(factor, words, many, lots=()):
    """Return a world of one mode with so many sensors over clean channels."""
    return World(plain_plant(factor), [Sensor((0,), Channel.clean(words))] * many, lots)


RING = ((0, 1), (1, 2), (2, 3), (3, 4), (0, 4))
DEAD = ((0, 1), (1,), (0, 1, 2))


def ring(words):
    return tuple([tuple(sorted((word, (word + 1) % words))) for word in range(words)])


def each_misses_one(words):
    """Return the use in which each word can come out in all ways but its own."""
    return tuple([tuple([outcome for outcome in range(words) if outcome != word]) for word in range(words)])


def clean_use(words):
    return tuple([(word,) for word in range(words)])
