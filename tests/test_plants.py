import random
from fractions import Fraction

from farheld.errors import BadPhase, BadPlant, BadTicks, BadTimes, BadUnit, NoMode
from farheld.plants import Plant
from farheld.ratios import ONE, ZERO, make_ratio
from tests.helpers import NO_RATIOS, NO_SEQUENCES, NO_WHOLES, HeldTest, as_lists, plain_plant

FACTORS = (((3, 2), (-2, 1)), ((1, 2), (1, 3)), ((-1, 1), (1, 1)))
PUSHES = ((1, 1), (1, 3), (7, 2))
STARTS = ((0, 1), (5, 1), (2, 9))


def slow_gathered(plant, mode, phase, ticks):
    total = Fraction(0)
    for tick in range(phase, phase + ticks):
        factor = Fraction(*plant.factors[mode][tick % plant.period])
        total = abs(factor) * total + Fraction(*plant.pushes[mode])
    return (total.numerator, total.denominator)


class PlantTest(HeldTest):
    def setUp(self):
        self.plant = Plant(FACTORS, PUSHES, STARTS)

    def test_attributes(self):
        for made in (self.plant, Plant(as_lists(FACTORS), list(PUSHES), list(STARTS))):
            self.assertEqual(made.factors, FACTORS)
            self.assertEqual((made.pushes, made.starts), (PUSHES, STARTS))
            self.assertEqual((made.modes, made.period, made.growing), (3, 2, (0, 2)))
            self.are_tuples((made.factors, made.pushes, made.starts, made.growing))
            self.assertEqual(made, self.plant)

    def test_what_is_passed_in_is_neither_changed_nor_kept(self):
        factors, pushes, starts = as_lists(FACTORS), list(PUSHES), list(STARTS)
        plant = Plant(factors, pushes, starts)
        self.assertEqual((factors, pushes, starts), (as_lists(FACTORS), list(PUSHES), list(STARTS)))
        factors[0][0] = (9, 1)
        factors.pop()
        pushes.clear()
        starts[0] = (1, 1)
        self.assertEqual(plant, self.plant)

    def test_equality(self):
        self.assertFalse(self.plant != Plant(FACTORS, PUSHES, STARTS))
        for other in (
            Plant(FACTORS[:2], PUSHES[:2], STARTS[:2]), Plant(FACTORS, PUSHES[::-1], STARTS),
            Plant(FACTORS, PUSHES, STARTS[::-1]), Plant(FACTORS[::-1], PUSHES, STARTS), None, (FACTORS, PUSHES, STARTS),
        ):
            self.assertFalse(self.plant == other)
            self.assertTrue(self.plant != other)

    def test_least_and_greatest_counts(self):
        self.assertEqual(plain_plant((1, 2)).modes, 1)
        self.assertEqual(Plant([[(1, 1)] * 4] * 3, [(1, 1)] * 3, [(0, 1)] * 3).period, 4)

    def test_wrong_factors(self):
        for thing in NO_SEQUENCES + ([], (), [[ONE]] * 4):
            self.raises(BadPlant, {"what": "factors", "mode": 0}, Plant, thing, None, None)
        for thing in NO_SEQUENCES + ([], (), [ONE] * 5):
            self.raises(BadPlant, {"what": "row", "mode": 0}, Plant, [thing], None, None)
            self.raises(BadPlant, {"what": "row", "mode": 1}, Plant, [[ONE], thing, 3], None, None)
        self.raises(BadPlant, {"what": "row", "mode": 1}, Plant, [[ONE], [ONE, ONE]], 0, 0)
        self.raises(BadPlant, {"what": "row", "mode": 2}, Plant, [[ONE] * 2, [ONE] * 2, [ONE]], 0, 0)
        for thing in NO_RATIOS + (ZERO,):
            self.raises(BadPlant, {"what": "factor", "mode": 0}, Plant, [[ONE, thing], 7], 0, 0)
            self.raises(BadPlant, {"what": "factor", "mode": 1}, Plant, [[ONE, ONE], (thing, ONE)], 0, 0)

    def test_wrong_pushes_and_starts(self):
        for thing in NO_SEQUENCES + ([], [ONE], [ONE] * 4, (ONE, ONE)):
            self.raises(BadPlant, {"what": "pushes", "mode": 0}, Plant, FACTORS, thing, None)
            self.raises(BadPlant, {"what": "starts", "mode": 0}, Plant, FACTORS, PUSHES, thing)
        for thing in NO_RATIOS + ((-1, 2),):
            self.raises(BadPlant, {"what": "push", "mode": 1}, Plant, FACTORS, [ONE, thing, thing], None)
            self.raises(BadPlant, {"what": "start", "mode": 2}, Plant, FACTORS, PUSHES, [ONE, ONE, thing])
        self.raises(BadPlant, {"what": "push", "mode": 0}, Plant, FACTORS, [ZERO] * 3, [(-1, 1)] * 3)
        self.assertEqual(Plant(FACTORS, PUSHES, [ZERO] * 3).starts, (ZERO,) * 3)

    def test_the_first_fault_is_told(self):
        self.raises(BadPlant, {"what": "factor", "mode": 0}, Plant, [[ZERO], [ONE, ONE]], [], [])
        self.raises(BadPlant, {"what": "row", "mode": 1}, Plant, [[ONE], None, [ZERO]], [], [])
        self.raises(BadPlant, {"what": "pushes", "mode": 0}, Plant, [[ONE]], [], [])

    def test_carried_growth_gathered(self):
        plant = self.plant
        self.assertEqual([plant.carried(0, 0, ticks) for ticks in range(5)], [ONE, (3, 2), (-3, 1), (-9, 2), (9, 1)])
        self.assertEqual([plant.carried(0, 1, ticks) for ticks in range(3)], [ONE, (-2, 1), (-3, 1)])
        self.assertEqual([plant.growth(0, 3, ticks) for ticks in range(3)], [ONE, (2, 1), (3, 1)])
        self.assertEqual([plant.gathered(0, 0, ticks) for ticks in range(4)], [ZERO, ONE, (3, 1), (11, 2)])
        self.assertEqual([plant.gathered(1, 1, ticks) for ticks in range(3)], [ZERO, (1, 3), (1, 2)])

    def test_against_a_slow_count(self):
        source = random.Random(3)
        for _ in range(60):
            modes, period = source.randint(1, 3), source.randint(1, 4)
            rows = [[make_ratio(source.choice((-1, 1)) * source.randint(1, 9), source.randint(1, 9))
                     for _ in range(period)] for _ in range(modes)]
            plant = Plant(rows, [make_ratio(source.randint(1, 9), source.randint(1, 9))] * modes, [ZERO] * modes)
            mode, phase, ticks = source.randrange(modes), source.randint(0, 9), source.randint(0, 12)
            product = Fraction(1)
            for tick in range(phase, phase + ticks):
                product *= Fraction(*plant.factors[mode][tick % period])
            self.assertEqual(plant.carried(mode, phase, ticks), (product.numerator, product.denominator))
            self.assertEqual(plant.growth(mode, phase, ticks), (abs(product.numerator), product.denominator))
            self.assertEqual(plant.gathered(mode, phase, ticks), slow_gathered(plant, mode, phase, ticks))

    def test_1000_ticks_and_great_phases(self):
        plant = Plant([[(10 ** 19 + 9, 10 ** 19), (-3, 2)]], [(1, 7)], [ZERO])
        self.assertEqual(plant.carried(0, 10 ** 200, 2), plant.carried(0, 0, 2))
        self.assertEqual(plant.carried(0, 10 ** 200 + 1, 1), (-3, 2))
        self.assertEqual(plant.gathered(0, 1, 1000), slow_gathered(plant, 0, 1, 1000))
        self.assertEqual(plant.carried(0, 0, 1000), make_ratio((10 ** 19 + 9) ** 500 * 3 ** 500, 20 ** 500 * 10 ** 9000))

    def test_grows(self):
        plant = Plant([[(2, 1), (1, 2)], [(-1, 1), (1, 1)], [(99, 100), (1, 1)]], [ONE] * 3, [ZERO] * 3)
        self.assertEqual([plant.grows(mode) for mode in range(3)], [True, True, False])
        self.assertEqual(plant.growing, (0, 1))
        self.assertEqual(plain_plant((1, 2)).growing, ())

    def test_errors_of_stretches(self):
        for call in (self.plant.carried, self.plant.growth, self.plant.gathered):
            for thing in NO_WHOLES + (-1,):
                self.raises(NoMode, {"mode": thing}, call, thing, -1, -1)
                self.raises(BadPhase, {"phase": thing}, call, 2, thing, -1)
                self.raises(BadTicks, {"ticks": thing}, call, 2, 0, thing)
            self.raises(NoMode, {"mode": 3}, call, 3, 0, 0)
            self.raises(BadTicks, {"ticks": 1001}, call, 0, 0, 1001)
        for thing in NO_WHOLES + (-1, 3):
            self.raises(NoMode, {"mode": thing}, self.plant.grows, thing)

    def test_with_unit(self):
        made = self.plant.with_unit(1, (3, 2))
        self.assertEqual(made, Plant(FACTORS, [(1, 1), (1, 2), (7, 2)], [(0, 1), (15, 2), (2, 9)]))
        self.assertEqual(self.plant, Plant(FACTORS, PUSHES, STARTS))
        self.assertEqual(self.plant.with_unit(2, (1, 2)).pushes, (PUSHES[0], PUSHES[1], (7, 4)))
        for thing in NO_RATIOS + (ZERO, (-1, 2)):
            self.raises(BadUnit, {"unit": thing}, self.plant.with_unit, 0, thing)
            self.raises(NoMode, {"mode": 3}, self.plant.with_unit, 3, thing)
        self.raises(NoMode, {"mode": True}, self.plant.with_unit, True, ONE)

    def test_with_sign(self):
        made = self.plant.with_sign(0, 5)
        self.assertEqual(made, Plant((((3, 2), (2, 1)),) + FACTORS[1:], PUSHES, STARTS))
        self.assertEqual(made.with_sign(0, 1), self.plant)
        for thing in NO_WHOLES + (-1,):
            self.raises(NoMode, {"mode": thing}, self.plant.with_sign, thing, -1)
            self.raises(BadPhase, {"phase": thing}, self.plant.with_sign, 0, thing)

    def test_turned(self):
        self.assertEqual(self.plant.turned(0), self.plant)
        self.assertEqual(self.plant.turned(7), Plant([row[::-1] for row in FACTORS], PUSHES, STARTS))
        self.assertEqual(self.plant.turned(10 ** 300), self.plant)
        four = Plant([[(1, 1), (2, 1), (3, 1), (4, 1)]], [ONE], [ZERO])
        self.assertEqual(four.turned(1).factors, (((2, 1), (3, 1), (4, 1), (1, 1)),))
        for thing in NO_WHOLES + (-1,):
            self.raises(BadPhase, {"phase": thing}, self.plant.turned, thing)

    def test_repeated(self):
        self.assertEqual(self.plant.repeated(1), self.plant)
        self.assertEqual(self.plant.repeated(2), Plant([row * 2 for row in FACTORS], PUSHES, STARTS))
        for thing in NO_WHOLES + (-1, 0, 3, 10 ** 300):
            self.raises(BadTimes, {"repeats": thing}, self.plant.repeated, thing)
        self.assertEqual(plain_plant((2, 1)).repeated(4).period, 4)
