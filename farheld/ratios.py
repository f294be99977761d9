"""Exact numbers: a ratio is a tuple (top, bottom) in lowest terms, the bottom above 0."""

from math import gcd

from farheld.errors import BadRatio

ZERO = (0, 1)
ONE = (1, 1)
HALF = (1, 2)
LONGEST = 300


def is_whole(thing, low=None, high=None):
    """Tell whether a thing is a whole number from low to high."""
    if not isinstance(thing, int) or isinstance(thing, bool):
        return False
    return (low is None or low <= thing) and (high is None or thing <= high)


def is_ratio(thing):
    """Tell whether a thing is a ratio."""
    if not isinstance(thing, tuple) or len(thing) != 2:
        return False
    top, bottom = thing
    return is_whole(top) and is_whole(bottom, 1) and gcd(top, bottom) == 1


def make_ratio(top, bottom=1):
    """Return the ratio of two whole numbers in lowest terms."""
    if not is_whole(top):
        raise BadRatio("top")
    if not is_whole(bottom) or bottom == 0:
        raise BadRatio("bottom")
    return _lowest(top, bottom)


def _lowest(top, bottom):
    shared = gcd(top, bottom)
    if bottom < 0:
        shared = -shared
    return (top // shared, bottom // shared)


def plus(one, other):
    """Return the sum of two ratios."""
    return _joined(one, other[0], other[1])


def minus(one, other):
    """Return the first ratio less the second."""
    return _joined(one, -other[0], other[1])


def _joined(one, top, bottom):
    # In lowest terms only what the bottoms share can be divided out of the sum. So beside a
    # small number a great one is added to without a search for all that its parts share.
    shared = gcd(one[1], bottom)
    if shared == 1:
        return (one[0] * bottom + top * one[1], one[1] * bottom)
    part = one[1] // shared
    total = one[0] * (bottom // shared) + top * part
    rest = gcd(total, shared)
    return (total // rest, part * (bottom // rest))


def times(one, other):
    """Return the product of two ratios."""
    left = gcd(one[0], other[1])
    right = gcd(other[0], one[1])
    return ((one[0] // left) * (other[0] // right), (one[1] // right) * (other[1] // left))


def over(one, other):
    """Return the quotient of two ratios."""
    if other[0] == 0:
        raise BadRatio("zero")
    return _lowest(one[0] * other[1], one[1] * other[0])


def negative(one):
    """Return the ratio with the other sign."""
    return (-one[0], one[1])


def size_of(one):
    """Return the absolute value of a ratio."""
    return (abs(one[0]), one[1])


def compare(one, other):
    """Return -1, 0 or 1 as the first ratio is less, equal or greater."""
    if one[1] == other[1]:
        gap = one[0] - other[0]
    else:
        # Beside the products of great numbers their whole parts are cheap.
        gap = one[0] // one[1] - other[0] // other[1]
        if gap == 0:
            gap = one[0] * other[1] - other[0] * one[1]
    if gap == 0:
        return 0
    return 1 if gap > 0 else -1


def sum_of(ratios):
    """Return the sum of a sequence, 0 for an empty one."""
    total = ZERO
    for one in ratios:
        total = plus(total, one)
    return total


def product_of(ratios):
    """Return the product of a sequence, 1 for an empty one."""
    total = ONE
    for one in ratios:
        total = times(total, one)
    return total


def least_of(ratios):
    """Return the least ratio of a sequence of at least one."""
    least = ratios[0]
    for one in ratios:
        if compare(one, least) < 0:
            least = one
    return least


def greatest_of(ratios):
    """Return the greatest ratio of a sequence of at least one."""
    greatest = ratios[0]
    for one in ratios:
        if compare(one, greatest) > 0:
            greatest = one
    return greatest


def floor_of(one):
    """Return the greatest whole number not above the ratio."""
    return one[0] // one[1]


def power_of(one, exponent):
    """Return the product of so many factors."""
    top, bottom = 1, 1
    # Powers of numbers in lowest terms are in lowest terms, so nothing is divided here.
    for _ in range(exponent):
        top *= one[0]
        bottom *= one[1]
    return (top, bottom)


def ratio_text(one):
    """Return the number word of a ratio, without a limit of its length."""
    if one[1] == 1:
        return str(one[0])
    return f"{one[0]}/{one[1]}"


def parse_ratio(text):
    """Return the ratio of a number word, None for any other thing."""
    if not isinstance(text, str) or len(text) > LONGEST:
        return None
    top_word, slash, bottom_word = text.partition("/")
    top = _parse_figures(top_word.removeprefix("-"))
    bottom = _parse_figures(bottom_word) if slash else 1
    if top is None or bottom is None or bottom == 0:
        return None
    if text.startswith("-"):
        top = -top
    one = _lowest(top, bottom)
    return one if ratio_text(one) == text else None


def _parse_figures(word):
    if word.isascii() and word.isdigit():
        return int(word)
    return None
