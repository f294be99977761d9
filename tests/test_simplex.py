import itertools
import random
import time
from fractions import Fraction

from farheld.errors import Rising
from farheld.ratios import ONE, ZERO, is_ratio
from farheld.simplex import Solution, solution_fault, solve_problem
from farheld.tableaus import Tableau, climbed, first_tableau, mended, pivoted
from tests.helpers import HeldTest, whole


def solved_by_corners(rows, limits, gains):
    """Return the greatest value of a bounded problem by trying all corners of its points."""
    columns = len(gains)
    planes = [(list(row), limit) for row, limit in zip(rows, limits)]
    planes += [([-(place == column) for place in range(columns)], 0) for column in range(columns)]
    best = None
    for chosen in itertools.combinations(planes, columns):
        point = meeting([row for row, _ in chosen], [limit for _, limit in chosen])
        if point is None or any(dot(row, point) > limit for row, limit in planes):
            continue
        value = dot(gains, point)
        best = value if best is None else max(best, value)
    return best


def dot(row, point):
    return sum(entry * one for entry, one in zip(row, point))


def meeting(rows, limits):
    """Return the one point at which all rows have their limits, None if there is not just one."""
    many = len(rows)
    lines = [[Fraction(entry) for entry in row] + [Fraction(limit)] for row, limit in zip(rows, limits)]
    for place in range(many):
        lead = next((at for at in range(place, many) if lines[at][place] != 0), None)
        if lead is None:
            return None
        lines[place], lines[lead] = lines[lead], lines[place]
        lines[place] = [entry / lines[place][place] for entry in lines[place]]
        for at in range(many):
            if at != place:
                lines[at] = [a - lines[at][place] * b for a, b in zip(lines[at], lines[place])]
    return [line[-1] for line in lines]


class SolveTest(HeldTest):
    def solved(self, rows, limits, gains):
        """Solve a problem and judge what comes out; return the Solution, None if the values rise."""
        begun = time.process_time()
        try:
            solution = solve_problem(rows, limits, gains)
        except Rising as error:
            ray = error.ray
            self.assertIsInstance(ray, tuple)
            self.assertEqual(len(ray), len(gains))
            self.assertTrue(all(is_ratio(one) and one[0] >= 0 for one in ray))
            ray = [Fraction(*one) for one in ray]
            self.assertTrue(all(dot(row, ray) <= 0 for row in rows))
            self.assertGreater(dot(gains, ray), 0)
            return None
        finally:
            self.assertLess(time.process_time() - begun, 2)
        self.assertIsNone(solution_fault(rows, limits, gains, solution))
        self.are_tuples((solution.point, solution.prices))
        return solution

    def test_small_problems(self):
        solution = self.solved([[1, 1], [1, 3]], [4, 6], [3, 5])
        self.assertEqual((solution.value, solution.point, solution.prices), ((14, 1), whole(3, 1), whole(2, 1)))
        self.assertEqual(self.solved(((2,),), (3,), (5,)).value, (15, 2))
        self.assertEqual(self.solved([[1]], [5], [-1]), Solution(ZERO, (ZERO,), (ZERO,)))
        self.assertEqual(self.solved([[0, 0]], [0], [0, -3]).value, ZERO)

    def test_without_a_bound(self):
        self.assertIsNone(self.solved([[0]], [5], [1]))
        self.assertIsNone(self.solved([[-1, 1], [1, -2]], [0, 3], [1, 0]))
        self.assertIsNone(self.solved([[1, -1]], [0], [0, 1]))
        self.assertIsNone(self.solved([[-5] * 12] * 24, [0] * 24, [0] * 11 + [1]))

    def test_against_all_corners(self):
        source = random.Random(4)
        bounded = 0
        for _ in range(300):
            columns, many = source.randint(1, 3), source.randint(1, 4)
            rows = [[source.randint(-3, 4) for _ in range(columns)] for _ in range(many)]
            limits = [source.choice((0, source.randint(0, 9))) for _ in range(many)]
            gains = [source.randint(-4, 6) for _ in range(columns)]
            solution = self.solved(rows, limits, gains)
            if solution is not None:
                bounded += 1
                self.assertEqual(Fraction(*solution.value), solved_by_corners(rows, limits, gains))
        self.assertGreater(bounded, 100)

    def test_all_sizes(self):
        source = random.Random(5)
        for _ in range(150):
            columns, many = source.randint(1, 12), source.randint(1, 24)
            greatest = source.choice((1, 9, 10 ** 12 - 1))
            least = source.choice((0, -greatest))
            rows = [[source.randint(least, greatest) for _ in range(columns)] for _ in range(many)]
            limits = [source.choice((0, 1, source.randint(0, 10 ** 30 - 1))) for _ in range(many)]
            self.solved(rows, limits, [source.randint(-greatest, greatest) for _ in range(columns)])

    def test_limits_all_0(self):
        source = random.Random(6)
        for _ in range(60):
            rows = [[source.randint(-2, 2) for _ in range(12)] for _ in range(24)]
            solution = self.solved(rows, [0] * 24, [source.randint(-2, 2) for _ in range(12)])
            self.assertIn(solution and solution.value, (None, ZERO))

    def test_rule_of_the_greatest_gain_would_go_round(self):
        rows, limits, gains = [[25, -6000, -4, 900], [50, -9000, -2, 300], [0, 0, 1, 0]], [0, 0, 1], [75, -15000, 2, -600]
        self.assertEqual(self.solved(rows, limits, gains).value, (5, 1))
        rows, limits, gains = [[1, -11, -5, 18], [1, -3, -1, 2], [1, 0, 0, 0]], [0, 0, 1], [10, -57, -9, -24]
        self.assertEqual(self.solved(rows, limits, gains).value, ONE)

    def test_long_ways_along_the_edges(self):
        rows = [[2 ** (1 + at - column) if column < at else int(column == at) for column in range(12)] for at in range(12)]
        limits = [5 ** (at + 1) for at in range(12)]
        gains = [2 ** (11 - column) for column in range(12)]
        for turned in (False, True):
            if turned:
                rows, gains = [row[::-1] for row in rows], gains[::-1]
            self.assertEqual(self.solved(rows, limits, gains).value, (5 ** 12, 1))

    def test_values_of_all_small_problems(self):
        entries = (-1, 0, 1)
        for rows in itertools.product(itertools.product(entries, repeat=2), repeat=2):
            for limits in ((0, 0), (0, 1), (2, 1)):
                for gains in itertools.product(entries, repeat=2):
                    solution = self.solved(rows, limits, gains)
                    if solution is not None:
                        self.assertEqual(Fraction(*solution.value), solved_by_corners(rows, limits, gains))

    def test_nothing_is_changed(self):
        rows, limits, gains = [[1, 1], [1, 3]], [4, 6], [3, 5]
        solve_problem(rows, limits, gains)
        solution_fault(rows, limits, gains, Solution(ZERO, (ZERO, ZERO), (ZERO, ZERO)))
        self.assertEqual((rows, limits, gains), ([[1, 1], [1, 3]], [4, 6], [3, 5]))


class TableauTest(HeldTest):
    def test_mended(self):
        source = random.Random(61)
        kinds = {"none": 0, "some": 0}
        for _ in range(250):
            columns, many = source.randint(1, 3), source.randint(1, 4)
            rows = [[source.randint(0, 4) for _ in range(columns)] for _ in range(many)] + [[1] * columns]
            limits = [source.randint(0, 9) for _ in range(many)] + [9]
            gains = [source.randint(-2, 6) for _ in range(columns)]
            table, _ = climbed(first_tableau(rows, limits, gains))
            for at in range(1, len(table.rows)):
                if table.inner[at] >= columns:
                    continue
                # The amount of this column shall be at least so much more, or at most so much.
                whole_part = table.rows[at][-1] // table.bottom + source.choice((0, 0, 1, 3))
                line = table.rows[at]
                above = line[:-1] + [line[-1] - (whole_part + 1) * table.bottom]
                below = [-entry for entry in line[:-1]] + [(whole_part // 2) * table.bottom - line[-1]]
                unit = [int(column == table.inner[at]) for column in range(columns)]
                turned = [-entry for entry in unit]
                for row, added, limit in ((above, turned, -whole_part - 1), (below, unit, whole_part // 2)):
                    made = mended(Tableau(table.bottom, table.rows + [row], table.inner + [99], table.outer))
                    best = solved_by_corners(rows + [added], limits + [limit], gains)
                    kinds["none" if best is None else "some"] += 1
                    if best is None:
                        self.assertIsNone(made)
                        continue
                    self.assertEqual(Fraction(made.rows[0][-1], made.bottom), best)
                    self.assertTrue(all(entry >= 0 for entry in made.rows[0]))
                    self.assertTrue(all(line[-1] >= 0 for line in made.rows[1:]))
        self.assertTrue(min(kinds.values()) > 30, kinds)

    def test_pivots_keep_what_they_are_made_of(self):
        table = first_tableau([[2, 1], [1, 3]], [4, 6], [1, 1])
        before = [list(row) for row in table.rows]
        made = pivoted(table, 1, 0)
        self.assertEqual((table.rows, table.bottom, table.inner, table.outer), (before, 1, [None, 2, 3], [0, 1]))
        self.assertEqual((made.rows, made.bottom), ([[1, -1, 4], [1, 1, 4], [-1, 5, 8]], 2))
        self.assertEqual((made.inner, made.outer), ([None, 0, 3], [2, 1]))
        self.assertEqual(pivoted(made, 1, 0).rows, before)


class SolutionFaultTest(HeldTest):
    problem = ([[1, 1], [1, 3]], [4, 6], [3, 5])

    def fault(self, value, point, prices):
        return solution_fault(*self.problem, Solution(value, point, prices))

    def test_right(self):
        self.assertIsNone(self.fault((14, 1), whole(3, 1), whole(2, 1)))

    def test_point(self):
        for thing in (None, 3, [(3, 1), (1, 1)], whole(3), whole(3, 1, 0), (3, 1), ((6, 2), ONE), ([3, 1], ONE),
                      ((True, 1), ONE), whole(-1, 1), whole(4, 1), whole(0, 3), "ab", {}, ((7, 2), ONE)):
            self.assertEqual(self.fault(None, thing, None), "point", thing)

    def test_prices(self):
        for thing in (None, 3, list(whole(2, 1)), whole(2), whole(2, 1, 0), ((2, 1), None), whole(2, 0), whole(-1, 9)):
            self.assertEqual(self.fault(None, whole(3, 1), thing), "prices", thing)

    def test_value(self):
        for thing in (None, 14, True, [14, 1], (28, 2), (13, 1), "14", (14, True), (14.0, 1)):
            self.assertEqual(self.fault(thing, whole(3, 1), whole(2, 1)), "value")
        self.assertEqual(self.fault((12, 1), whole(4, 0), whole(2, 1)), "value")
        self.assertEqual(self.fault((14, 1), whole(4, 0), whole(2, 1)), "value")
        self.assertEqual(self.fault((14, 1), whole(3, 1), whole(3, 1)), "value")

    def test_equality_of_results(self):
        one = Solution(ZERO, [1], None)
        self.assertTrue(one == Solution(ZERO, [1], None))
        self.assertFalse(one != Solution(ZERO, [1], None))
        for other in (Solution(ONE, [1], None), Solution(ZERO, (1,), None), Solution(ZERO, [1], 0), None, (ZERO, [1], None)):
            self.assertTrue(one != other)
        point = [1]
        self.assertIs(Solution(ZERO, point, None).point, point)
