"""Forms: a constant and multiples of registers, as a couple (constant, ((register, multiple), ..))."""

from farheld.ratios import ZERO, is_ratio, is_whole, plus, times
from farheld.sequences import is_couple, is_sequence, settled


def form_value(form, registers):
    """Return the value of a form over a row of registers."""
    value, parts = form
    for register, multiple in parts:
        value = plus(value, times(multiple, registers[register]))
    return value


def is_form(thing, registers):
    """Tell whether a thing is a form with registers below a number."""
    return kept_form(thing, registers) is not None


def make_form(constant, *parts):
    """Return the form of a constant and couples (register, multiple) in any order."""
    totals = {}
    for register, multiple in parts:
        totals[register] = plus(totals.get(register, ZERO), multiple)
    told = [(register, totals[register]) for register in sorted(totals) if totals[register] != ZERO]
    return (constant, tuple(told))


def kept_form(thing, registers):
    """Return a form with registers below a number as tuples, None for any other thing."""
    if not is_couple(thing) or not is_ratio(thing[0]) or not is_sequence(thing[1]):
        return None
    told = []
    low = 0
    for part in thing[1]:
        if not is_couple(part):
            return None
        register, multiple = part
        if not is_whole(register, low, registers - 1) or not is_ratio(multiple) or multiple == ZERO:
            return None
        told.append(settled(part, (register, multiple)))
        low = register + 1
    return settled(thing, (thing[0], tuple(told)))


def registers_of(form):
    """Return how many registers there must be for a form."""
    parts = form[1]
    return parts[-1][0] + 1 if parts else 0
