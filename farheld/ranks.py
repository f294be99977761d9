"""Ratios in the order of their values, and the simplest ones between others."""

from farheld.ratios import negative


def in_order(ratios):
    """Return ratios in ascending order, equal ones kept."""
    if len(ratios) < 2:
        return list(ratios)
    # Behind so many binary places unlike ratios have unlike whole parts.
    places = 2 * max([one[1].bit_length() for one in ratios])
    return sorted(ratios, key=lambda one: (one[0] << places) // one[1])


def ascending(ratios):
    """Return the unlike ratios of a sequence in ascending order."""
    return in_order(list({one: True for one in ratios}))


def ranks_of(ratios):
    """Return for each ratio how many unlike ones of the sequence are less, by ratio."""
    return {one: rank for rank, one in enumerate(ascending(ratios))}


def simplest_between(low, high):
    """Return a ratio of the least bottom above one ratio and below another, greater one."""
    if low[0] < 0 < high[0]:
        return (0, 1)
    if low[0] < 0:
        return negative(simplest_between(negative(high), negative(low)))
    wholes = []
    while True:
        whole = low[0] // low[1]
        if (whole + 1) * high[1] < high[0]:
            return _with_wholes(wholes, (whole + 1, 1))
        # All between them is this whole part and 1 divided by what lies between two other ratios.
        wholes.append(whole)
        rest = low[0] - whole * low[1]
        least = (high[1], high[0] - whole * high[1])
        if rest == 0:
            return _with_wholes(wholes, (least[0] // least[1] + 1, 1))
        low, high = least, (low[1], rest)


def _with_wholes(wholes, last):
    """Return the last one of the whole parts plus 1 divided by a ratio, and so on back to the first one."""
    top, bottom = last
    for whole in reversed(wholes):
        top, bottom = whole * top + bottom, top
    return (top, bottom)
