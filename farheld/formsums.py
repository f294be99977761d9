"""Sums of forms, and their greatest values over spans: a couple (low, high) for each register."""

from farheld.forms import make_form
from farheld.ratios import compare, minus, negative, plus, times


def constant_form(constant):
    """Return the form that has this value over all registers."""
    return (constant, ())


def negative_form(form):
    """Return the form with the other sign."""
    constant, parts = form
    return (negative(constant), tuple([(register, negative(multiple)) for register, multiple in parts]))


def scaled_form(form, factor):
    """Return a form times a ratio other than 0."""
    constant, parts = form
    return (times(constant, factor), tuple([(register, times(multiple, factor)) for register, multiple in parts]))


def sum_of_forms(one, other):
    """Return the sum of two forms."""
    constant = plus(one[0], other[0])
    if not other[1]:
        return (constant, one[1])
    parts = one[1] + other[1]
    return make_form(constant, *parts)


def form_behind(form, nexts):
    """Return a form with each register replaced by its next form."""
    constant, parts = form
    told = constant_form(constant)
    for register, multiple in parts:
        told = sum_of_forms(told, scaled_form(nexts[register], multiple))
    return told


def greatest_over(form, spans):
    """Return the greatest value of a form over spans."""
    value, parts = form
    for register, multiple in parts:
        low, high = spans[register]
        value = plus(value, times(multiple, high if multiple[0] > 0 else low))
    return value


def least_over(form, spans):
    """Return the least value of a form over spans."""
    return negative(greatest_over(negative_form(form), spans))


def greatest_gap(form, other, spans):
    """Return the greatest value over spans of a form less another one."""
    if not form[1] and not other[1]:
        return minus(form[0], other[0])
    return greatest_over(sum_of_forms(form, negative_form(other)), spans)


def is_at_most(form, other, spans):
    """Tell whether a form is at most another one all over the spans."""
    return greatest_gap(form, other, spans)[0] <= 0


def is_within(span, other):
    """Tell whether a couple (low, high) lies within another one."""
    return compare(other[0], span[0]) <= 0 and compare(span[1], other[1]) <= 0
