"""Problems: the greatest value of a point under rows of limits, with prices that prove it."""

from farheld.errors import Rising
from farheld.ratios import ONE, ZERO, compare, is_ratio, make_ratio, sum_of, times
from farheld.tableaus import climbed, first_tableau


class Solution:
    """A value, a point that has it, and prices that bound it."""

    def __init__(self, value, point, prices):
        self.value = value
        self.point = point
        self.prices = prices

    def __eq__(self, other):
        if not isinstance(other, Solution):
            return False
        return self.value == other.value and self.point == other.point and self.prices == other.prices


def solve_problem(rows, limits, gains):
    """Return a Solution of the greatest value, or raise Rising where there is none."""
    table, column = climbed(first_tableau(rows, limits, gains))
    if column is not None:
        raise Rising(_ray_along(table, column, len(gains)))
    point = [ZERO] * len(gains)
    for at in range(1, len(table.rows)):
        if table.inner[at] < len(gains):
            point[table.inner[at]] = make_ratio(table.rows[at][-1], table.bottom)
    prices = [ZERO] * len(rows)
    for at, number in enumerate(table.outer):
        if number >= len(gains):
            prices[number - len(gains)] = make_ratio(table.rows[0][at], table.bottom)
    value = make_ratio(table.rows[0][-1], table.bottom)
    return Solution(value, tuple(point), tuple(prices))


def _ray_along(table, column, columns):
    ray = [ZERO] * columns
    if table.outer[column] < columns:
        ray[table.outer[column]] = ONE
    for at in range(1, len(table.rows)):
        if table.inner[at] < columns:
            ray[table.inner[at]] = make_ratio(-table.rows[at][column], table.bottom)
    return tuple(ray)


def solution_fault(rows, limits, gains, solution):
    """Return the first fault of a Solution, None if it is right."""
    if not are_amounts(solution.point, len(gains)) or not _is_point(rows, limits, solution.point):
        return "point"
    if not are_amounts(solution.prices, len(rows)) or not _are_prices(rows, gains, solution.prices):
        return "prices"
    if not is_ratio(solution.value):
        return "value"
    if solution.value != weighed(gains, solution.point) or solution.value != weighed(limits, solution.prices):
        return "value"
    return None


def are_amounts(thing, many):
    """Tell whether a thing is a tuple of so many ratios of 0 or more."""
    if not isinstance(thing, tuple) or len(thing) != many:
        return False
    return all([is_ratio(one) and one[0] >= 0 for one in thing])


def weighed(numbers, ratios):
    """Return the sum of whole numbers times ratios."""
    return sum_of([times((number, 1), one) for number, one in zip(numbers, ratios)])


def _is_point(rows, limits, point):
    return all([compare(weighed(row, point), (limit, 1)) <= 0 for row, limit in zip(rows, limits)])


def _are_prices(rows, gains, prices):
    for column, gain in enumerate(gains):
        if compare(weighed([row[column] for row in rows], prices), (gain, 1)) < 0:
            return False
    return True
