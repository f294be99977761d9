import random
from fractions import Fraction
from math import floor

from farheld.ranks import ascending, in_order, ranks_of, simplest_between
from tests.helpers import HeldTest, whole

BIG = 10 ** 290


def told(fraction):
    return (fraction.numerator, fraction.denominator)


class RanksTest(HeldTest):
    def test_orders(self):
        near = [(BIG + 1, BIG), (1, 1), (BIG - 1, BIG), (1, 1), (-1, BIG), (0, 1)]
        self.assertEqual(in_order(near), [(-1, BIG), (0, 1), (BIG - 1, BIG), (1, 1), (1, 1), (BIG + 1, BIG)])
        self.assertEqual(ascending(tuple(near)), [(-1, BIG), (0, 1), (BIG - 1, BIG), (1, 1), (BIG + 1, BIG)])
        self.assertEqual(ranks_of(near), {(-1, BIG): 0, (0, 1): 1, (BIG - 1, BIG): 2, (1, 1): 3, (BIG + 1, BIG): 4})
        self.assertEqual((in_order(()), ascending([]), ranks_of([])), ([], [], {}))
        source = random.Random(1)
        for _ in range(50):
            fractions = [Fraction(source.randint(-9, 9), source.randint(1, 9)) for _ in range(12)]
            ratios = [told(one) for one in fractions]
            self.assertEqual(in_order(ratios), [told(one) for one in sorted(fractions)])
            self.assertEqual(ascending(ratios), [told(one) for one in sorted(set(fractions))])

    def test_simplest_between(self):
        for low, high, due in (
            ((0, 1), (1, 1), (1, 2)), ((-1, 1), (1, 9), (0, 1)), ((0, 1), (1, 7), (1, 8)), ((3, 1), (9, 2), (4, 1)), ((-9, 2), (-4, 1), (-13, 3)),
            ((5, 7), (3, 4), (8, 11)), ((1, 3), (1, 2), (2, 5)), ((0, 1), (9, 1), (1, 1)), ((-3, 1), (0, 1), (-1, 1)), ((BIG, 1), (BIG + 1, 1), (2 * BIG + 1, 2)),
        ):
            self.assertEqual(simplest_between(low, high), due)
        self.assertEqual(simplest_between((BIG - 1, BIG), (BIG + 1, BIG)), whole(1)[0])
        source = random.Random(2)
        for _ in range(500):
            low, high = sorted(source.sample([Fraction(top, bottom) for bottom in range(1, 9) for top in range(-20, 21)], 2))
            if low == high:
                continue
            found = simplest_between(told(low), told(high))
            self.assertEqual(found, told(Fraction(*found)))
            self.assertTrue(low < Fraction(*found) < high)
            self.assertFalse(any(Fraction(floor(low * bottom) + 1, bottom) < high for bottom in range(1, found[1])))
