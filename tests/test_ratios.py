import random
from fractions import Fraction
from math import floor

from farheld.errors import BadRatio
from farheld.ratios import (
    HALF, ONE, ZERO, compare, floor_of, greatest_of, is_ratio, is_whole, least_of, make_ratio, minus, negative, over,
    parse_ratio, plus, power_of, product_of, ratio_text, size_of, sum_of, times,
)
from tests.helpers import NO_RATIOS, NO_WHOLES, HeldTest

BIG = 10 ** 299 + 7


def told(fraction):
    return (fraction.numerator, fraction.denominator)


def some_fractions(many, seed):
    source = random.Random(seed)
    sizes = (3, 20, 10 ** 30, 10 ** 299)
    return [Fraction(source.randint(-size, size), source.randint(1, size)) for size in sizes for _ in range(many)]


class RatiosTest(HeldTest):
    def test_constants(self):
        self.assertEqual((ZERO, ONE, HALF), ((0, 1), (1, 1), (1, 2)))

    def test_is_whole(self):
        for thing in NO_WHOLES:
            self.assertIs(is_whole(thing), False)
        for thing in (0, -5, BIG, -BIG):
            self.assertIs(is_whole(thing), True)
        self.assertEqual([is_whole(one, 2, 4) for one in range(7)], [False, False, True, True, True, False, False])
        self.assertEqual([is_whole(one, low=3) for one in (2, 3, BIG)], [False, True, True])
        self.assertEqual([is_whole(one, high=3) for one in (-BIG, 3, 4)], [True, True, False])
        self.assertIs(is_whole(True, 0, 1), False)
        self.assertIs(is_whole(False, None, 0), False)
        self.assertIs(is_whole(3, 4, 2), False)

    def test_is_ratio(self):
        for thing in NO_RATIOS:
            self.assertIs(is_ratio(thing), False, thing)
        for thing in ((0, 1), (1, 1), (-3, 2), (BIG, 10 ** 299), (7, 3)):
            self.assertIs(is_ratio(thing), True, thing)

    def test_make_ratio(self):
        for top, bottom in ((6, 4), (-6, 4), (6, -4), (-6, -4), (0, -9), (0, 5), (BIG * 6, -BIG * 4)):
            self.assertEqual(make_ratio(top, bottom), told(Fraction(top, bottom)))
        self.assertEqual(make_ratio(-7), (-7, 1))
        self.assertEqual(make_ratio(top=3, bottom=-3), (-1, 1))

    def test_make_ratio_refuses(self):
        for thing in NO_WHOLES:
            self.raises(BadRatio, {"what": "top"}, make_ratio, thing, 0)
            self.raises(BadRatio, {"what": "bottom"}, make_ratio, 1, thing)
        self.raises(BadRatio, {"what": "bottom"}, make_ratio, 0, 0)

    def test_arithmetic(self):
        fractions = some_fractions(12, 1)
        for one, other in zip(fractions, fractions[1:] + fractions[:1]):
            pair = (told(one), told(other))
            self.assertEqual(plus(*pair), told(one + other))
            self.assertEqual(minus(*pair), told(one - other))
            self.assertEqual(times(*pair), told(one * other))
            if other != 0:
                self.assertEqual(over(*pair), told(one / other))
            self.assertEqual(negative(pair[0]), told(-one))
            self.assertEqual(size_of(pair[0]), told(abs(one)))
            self.assertEqual(compare(*pair), (one > other) - (one < other))
            self.assertEqual(compare(pair[0], pair[0]), 0)
            self.assertEqual(floor_of(pair[0]), floor(one))
        self.assertEqual(negative(ZERO), ZERO)

    def test_over_zero(self):
        self.raises(BadRatio, {"what": "zero"}, over, (1, 2), (0, 1))
        self.raises(BadRatio, {"what": "zero"}, over, ZERO, ZERO)

    def test_rows(self):
        fractions = some_fractions(3, 2)
        product = Fraction(1)
        for one in fractions:
            product *= one
        for made in (list, tuple):
            ratios = made([told(one) for one in fractions])
            self.assertEqual(sum_of(ratios), told(sum(fractions)))
            self.assertEqual(product_of(ratios), told(product))
            self.assertEqual(least_of(ratios), told(min(fractions)))
            self.assertEqual(greatest_of(ratios), told(max(fractions)))
            self.assertEqual((sum_of(made()), product_of(made())), (ZERO, ONE))
            self.assertEqual((least_of(made([HALF])), greatest_of(made([HALF]))), (HALF, HALF))

    def test_floor(self):
        self.assertEqual([floor_of(one) for one in ((7, 2), (-7, 2), (4, 1), (-4, 1), ZERO)], [3, -4, 4, -4, 0])

    def test_power(self):
        self.assertEqual(power_of((-2, 3), 5), (-32, 243))
        self.assertEqual(power_of((-2, 3), 0), ONE)
        self.assertEqual(power_of(ZERO, 0), ONE)
        self.assertEqual(power_of(ZERO, 3), ZERO)
        self.assertEqual(power_of((3, 2), 1000), (3 ** 1000, 2 ** 1000))

    def test_texts(self):
        for one, text in (((3, 1), "3"), ((-7, 2), "-7/2"), (ZERO, "0"), ((-1, 1), "-1"), ((1, 10), "1/10")):
            self.assertEqual(ratio_text(one), text)
            self.assertEqual(parse_ratio(text), one)

    def test_no_number_words(self):
        words = (
            "", "-", "/", "-0", "+3", "03", "2/4", "3/1", "1/0", "0/1", "0/2", "1/-2", "--1", "1/2/3", " 1", "1 ", "1/",
            "/2", "1 /2", "1_0", "1.5", "\u00b2", "\u0663", "1/\u0662", "-/2", "1\n", "0x1", "-01", "1/02", "-0/3",
        )
        for word in words + (None, 3, True, (1, 2), ["1"], b"1", {}):
            self.assertIsNone(parse_ratio(word), word)

    def test_length_of_number_words(self):
        self.assertEqual(parse_ratio("9" * 299), (10 ** 299 - 1, 1))
        self.assertEqual(parse_ratio("9" * 300), (10 ** 300 - 1, 1))
        self.assertIsNone(parse_ratio("9" * 301))
        self.assertEqual(parse_ratio("-" + "9" * 299), (1 - 10 ** 299, 1))
        self.assertIsNone(parse_ratio("-" + "9" * 300))
        self.assertEqual(parse_ratio("1/" + "7" * 298), (1, int("7" * 298)))
        self.assertIsNone(parse_ratio("1/" + "7" * 299))

    def test_nothing_passed_in_is_changed(self):
        ratios = [(1, 2), (-3, 4), (5, 1)]
        for call in (sum_of, product_of, least_of, greatest_of):
            call(ratios)
        self.assertEqual(ratios, [(1, 2), (-3, 4), (5, 1)])
