"""Tableaus of linear problems in whole numbers over one common bottom.

Row 0 is the row of the value, and the last column holds the limits. Each other row belongs to
an inner variable, each other column to an outer one; the outer variables are 0. The entries are
minors of the first rows, so all divisions by the bottom are without rest.
"""


class Tableau:
    """A state of the simplex method; it is not changed, each step makes a new one."""

    def __init__(self, bottom, rows, inner, outer):
        self.bottom = bottom
        self.rows = rows
        self.inner = inner
        self.outer = outer


def first_tableau(rows, limits, gains):
    """Return the tableau at the point of zeros; the variables of the rows follow those of the columns."""
    columns = len(gains)
    told = [[-gain for gain in gains] + [0]]
    for row, limit in zip(rows, limits):
        told.append(list(row) + [limit])
    inner = [None] + list(range(columns, columns + len(rows)))
    return Tableau(1, told, inner, list(range(columns)))


def pivoted(table, row, column):
    """Return the tableau in which the variables of a row and a column have changed sides."""
    lead = table.rows[row]
    pivot = lead[column]
    rows = []
    for at, line in enumerate(table.rows):
        if at == row:
            new = list(lead)
            new[column] = table.bottom
        else:
            part = line[column]
            new = [(entry * pivot - part * other) // table.bottom for entry, other in zip(line, lead)]
            new[column] = -part
        rows.append(new)
    if pivot < 0:
        rows = [[-value for value in told] for told in rows]
    inner = list(table.inner)
    outer = list(table.outer)
    inner[row], outer[column] = outer[column], inner[row]
    return Tableau(abs(pivot), rows, inner, outer)


def climbed(table):
    """Raise the value as far as it goes.

    Return the last tableau and None, or a column along which the value rises without bound.
    """
    while True:
        columns = [column for column in range(len(table.outer)) if table.rows[0][column] < 0]
        if not columns:
            return (table, None)
        places = [_limiting_row(table, column) for column in columns]
        if None in places:
            return (table, columns[places.index(None)])
        at = _best_step(table, columns, places)
        table = pivoted(table, places[at], columns[at])


def _best_step(table, columns, places):
    # The greatest rise is taken. Where no step rises, the rule of the least number keeps the
    # method from going round: such steps are followed by such steps until one rises.
    best = 0
    best_top, best_bottom = 0, 1
    for at in range(len(columns)):
        line = table.rows[places[at]]
        top, bottom = -table.rows[0][columns[at]] * line[-1], line[columns[at]]
        if top * best_bottom > best_top * bottom:
            best, best_top, best_bottom = at, top, bottom
    if best_top == 0:
        numbers = [table.outer[column] for column in columns]
        best = numbers.index(min(numbers))
    return best


def _limiting_row(table, column):
    """Return the row that a column's variable meets first, of equal ones that of the least number."""
    best = None
    for at in range(1, len(table.rows)):
        line = table.rows[at]
        if line[column] <= 0:
            continue
        if best is None:
            best = at
            continue
        other = table.rows[best]
        gap = line[-1] * other[column] - other[-1] * line[column]
        if gap < 0 or (gap == 0 and table.inner[at] < table.inner[best]):
            best = at
    return best


def mended(table):
    """Return the best tableau with no limit below 0, None if there is none.

    No entry of row 0 may be below 0; the value falls from step to step. The rule of the least
    number keeps the method from going round.
    """
    while True:
        wrong = [at for at in range(1, len(table.rows)) if table.rows[at][-1] < 0]
        if not wrong:
            return table
        numbers = [table.inner[at] for at in wrong]
        row = wrong[numbers.index(min(numbers))]
        column = _yielding_column(table, row)
        if column is None:
            return None
        table = pivoted(table, row, column)


def _yielding_column(table, row):
    best = None
    line = table.rows[row]
    gains = table.rows[0]
    for at in range(len(table.outer)):
        if line[at] >= 0:
            continue
        if best is None:
            best = at
            continue
        gap = gains[at] * line[best] - gains[best] * line[at]
        if gap > 0 or (gap == 0 and table.outer[at] < table.outer[best]):
            best = at
    return best
