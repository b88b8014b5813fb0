"""The form, the order and the size of values, for sorts that are known to be right."""

from lossbars.errors import BadValue

MOST_NUMBER = 99
MOST_PARTS = 8


def is_number(value, low, high):
    """Whether a value is an integer from low to high; True and False are none."""
    return isinstance(value, int) and not isinstance(value, bool) and low <= value <= high


def side_sort(sort, side):
    """The sort of what is borne on a side."""
    return sort[1] if side == "left" else sort[2]


def value_fault(sort, data):
    """The path to the first thing that keeps data from telling a value; None if they tell one."""
    if not _own_form(sort, data):
        return ()
    for place, inner, part in value_parts(sort, data):
        fault = value_fault(inner, part)
        if fault is not None:
            return (place,) + fault
    return None


def value_parts(sort, data):
    """The parts of data whose own form is right: their places, their sorts, themselves."""
    if sort[0] == "both":
        return [(0, sort[1], data[0]), (1, sort[2], data[1])]
    if sort[0] == "either":
        return [(1, side_sort(sort, data[0]), data[1])]
    if sort[0] in ("lane", "heap"):
        return [(place, sort[1], part) for place, part in enumerate(data)]
    return []


def _own_form(sort, data):
    if sort[0] == "mark":
        return isinstance(data, str) and data in sort[1]
    if sort[0] == "count":
        return is_number(data, 0, MOST_NUMBER)
    if sort[0] == "both":
        return isinstance(data, tuple) and len(data) == 2
    if sort[0] == "either":
        return isinstance(data, tuple) and len(data) == 2 and data[0] in ("left", "right")
    return isinstance(data, (list, tuple)) and len(data) <= MOST_PARTS


def told_value(sort, data):
    """The value, in its one form, that is told by data without a fault."""
    if sort[0] in ("mark", "count"):
        return data
    if sort[0] == "both":
        return (told_value(sort[1], data[0]), told_value(sort[2], data[1]))
    if sort[0] == "either":
        return (data[0], told_value(side_sort(sort, data[0]), data[1]))
    made = [told_value(sort[1], part) for part in data]
    return tuple(made) if sort[0] == "lane" else as_heap(sort[1], made)


def form_fault(sort, value):
    """As value_fault, but () also for data that tell a value and are not in its one form."""
    fault = value_fault(sort, value)
    if fault is None and told_value(sort, value) != value:
        return ()
    return fault


def check_value(sort, value, ahead=()):
    """BadValue for what is no value in its one form; ahead stands ahead of the path."""
    fault = form_fault(sort, value)
    if fault is not None:
        raise BadValue(ahead + fault)


def check_values(sort, values):
    """BadValue for the first of some that is no value in its one form."""
    for place, value in enumerate(values):
        check_value(sort, value, (place,))


def as_heap(inner, parts):
    """The heap of these elements."""
    return tuple(in_order(inner, parts))


def in_order(sort, values):
    """The list of some values, ascending."""
    return sorted(values, key=lambda value: rank(sort, value))


def rank(sort, value):
    """What compares as the value does in the order of its sort."""
    if sort[0] == "mark":
        return sort[1].index(value)
    if sort[0] == "count":
        return value
    if sort[0] == "both":
        return (rank(sort[1], value[0]), rank(sort[2], value[1]))
    if sort[0] == "either":
        return (0 if value[0] == "left" else 1, rank(side_sort(sort, value[0]), value[1]))
    return tuple([rank(sort[1], part) for part in value])


def amount(sort, value):
    """How much there is of a value."""
    if sort[0] == "mark":
        return 1
    if sort[0] == "count":
        return value
    own = len(value) if sort[0] in ("lane", "heap") else 0
    return own + sum([amount(inner, part) for _, inner, part in value_parts(sort, value)])


def lowest(sort):
    """The ascending list of the values that hold no other one."""
    if sort[0] == "mark":
        return list(sort[1])
    if sort[0] == "count":
        return [0]
    if sort[0] == "both":
        return [(first, second) for first in lowest(sort[1]) for second in lowest(sort[2])]
    if sort[0] == "either":
        return [(side, part) for side in ("left", "right") for part in lowest(side_sort(sort, side))]
    return [()]
