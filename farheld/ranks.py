"""Ratios in the order of their values."""


def in_order(ratios):
    """Return ratios in ascending order, equal ones kept."""
    if len(ratios) < 2:
        return list(ratios)
    # Behind so many binary places unlike ratios have unlike whole parts.
    places = 2 * max([one[1].bit_length() for one in ratios])
    return sorted(ratios, key=lambda one: (one[0] << places) // one[1])


def ascending(ratios):
    """Return the unlike ratios of a sequence in ascending order."""
    return in_order(list({one: True for one in ratios}))


def ranks_of(ratios):
    """Return for each ratio how many unlike ones of the sequence are less, by ratio."""
    return {one: rank for rank, one in enumerate(ascending(ratios))}
