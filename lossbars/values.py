"""Values of a sort: their one form, their order, what they hold."""

from lossbars.errors import BadSort, BadValue
from lossbars.forms import amount, check_value, check_values, form_fault, in_order, lowest, told_value, value_fault
from lossbars.holding import above, heap_places, lane_places
from lossbars.sorts import check_sort


def value_of(sort, data):
    """The value that is told by data: lanes and heaps may be lists, heaps in any order."""
    check_sort(sort)
    fault = value_fault(sort, data)
    if fault is not None:
        raise BadValue(fault)
    return told_value(sort, data)


def is_value(sort, value):
    """Whether any value is a value of the sort in its one form."""
    check_sort(sort)
    return form_fault(sort, value) is None


def ordered(sort, values):
    """The list of some values, ascending."""
    check_sort(sort)
    check_values(sort, values)
    return in_order(sort, values)


def holds(sort, v, u):
    """Whether v holds u."""
    check_sort(sort)
    check_value(sort, v)
    check_value(sort, u)
    return above(sort, v, u)


def places(sort, v, u):
    """The first tuple of places in lane or heap v for the elements of u; None if there is none."""
    check_sort(sort)
    if sort[0] not in ("lane", "heap"):
        raise BadSort(())
    check_value(sort, v)
    check_value(sort, u)
    if sort[0] == "lane":
        return lane_places(sort[1], v, u)
    return heap_places(sort[1], v, u)


def least_values(sort):
    """The ascending list of the values that hold no other one."""
    check_sort(sort)
    return lowest(sort)


def size(sort, value):
    """How much there is of a value."""
    check_sort(sort)
    check_value(sort, value)
    return amount(sort, value)
