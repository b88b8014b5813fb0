"""Limits of a sort: their one form, their order, what lies inside them."""

from lossbars.errors import BadLimit
from lossbars.forms import check_value
from lossbars.insides import inside, limits_in_order, within
from lossbars.shapes import check_limit, check_limits, limit_fault, one_form, told_limit, whole
from lossbars.sorts import check_sort
from lossbars.tables import topmost


def shaped(sort, data):
    """The limit in one form that tells the same as data, a limit in some form."""
    check_sort(sort)
    fault = limit_fault(sort, data)
    if fault is not None:
        raise BadLimit(fault)
    return one_form(sort, data)


def is_limit(sort, value):
    """Whether any value is a limit of the sort in its one form."""
    check_sort(sort)
    return limit_fault(sort, value) is None and one_form(sort, value) == value


def ordered_limits(sort, limits):
    """The list of some limits, ascending."""
    check_sort(sort)
    check_limits(sort, limits)
    return limits_in_order(sort, limits)


def limit_list(sort, limits):
    """The list of those of some limits that lie within no other one, each once, ascending."""
    check_sort(sort)
    check_limits(sort, limits)
    return topmost(sort, limits)


def is_inside(sort, limit, v):
    """Whether v lies inside the limit."""
    check_sort(sort)
    check_limit(sort, limit)
    check_value(sort, v)
    return inside(sort, limit, v)


def lies_within(sort, one, two):
    """Whether all that is inside one is inside two."""
    check_sort(sort)
    check_limit(sort, one)
    check_limit(sort, two)
    return within(sort, one, two)


def limit_of(sort, v):
    """The limit of all that v holds."""
    check_sort(sort)
    check_value(sort, v)
    return told_limit(sort, v)


def everything(sort):
    """The list of limits that has all values inside."""
    check_sort(sort)
    return whole(sort)
