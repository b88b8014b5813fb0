"""The limits outside an up-set, and the least values outside some limits."""

from lossbars.errors import TooMany
from lossbars.forms import check_value, check_values, lowest, side_sort
from lossbars.gaps import least_missed
from lossbars.insides import inside
from lossbars.leasts import common
from lossbars.meets import met_lists, rows_met
from lossbars.shapes import bag_of, check_limits, limit_fault, often_of, row_of, whole
from lossbars.sorts import check_sort
from lossbars.tables import topmost


def beyond(sort, v):
    """The list of limits of all values that do not hold v."""
    check_sort(sort)
    check_value(sort, v)
    return not_above(sort, v)


def outside(sort, some, *, limits=60):
    """The list of limits of all values that hold none of some."""
    check_sort(sort)
    check_values(sort, some)
    found = whole(sort)
    for v in some:
        found = _cut(sort, found, not_above(sort, v), limits)
    return found


def least_outside(sort, limits, *, values=60):
    """The least list of the values inside none of limits."""
    check_sort(sort)
    check_limits(sort, limits)
    found = lowest(sort)
    for limit in limits:
        found = common(sort, found, least_missed(sort, limit, values))
        if len(found) > values:
            raise TooMany()
    return found


def _cut(sort, limits, others, most):
    """What lies inside one of limits and one of others; TooMany where one brings more than most, or all do."""
    found = []
    for limit in limits:
        shared = _shared(sort, limit, others, most)
        if len(shared) > most:
            raise TooMany()
        found.extend(shared)
    found = topmost(sort, found)
    if len(found) > most:
        raise TooMany()
    for limit in found:
        # A limit that was made here has no fault but that it passes the bounds.
        if limit_fault(sort, limit) is not None:
            raise TooMany()
    return found


def _shared(sort, limit, others, most):
    """What lies inside a limit and one of others; where this is more than most limits, perhaps TooMany."""
    if sort[0] == "lane" and len(others) == 1:
        return rows_met(sort, limit, others[0], most)
    return met_lists(sort, [limit], others)


def not_above(sort, v):
    """As beyond, for what is known to be right."""
    if sort[0] == "mark":
        return [("is", letter) for letter in sort[1] if letter != v]
    if sort[0] == "count":
        return [("to", v - 1)] if v > 0 else []
    if sort[0] == "both":
        firsts = [("pair", one, two) for one in not_above(sort[1], v[0]) for two in whole(sort[2])]
        seconds = [("pair", one, two) for one in whole(sort[1]) for two in not_above(sort[2], v[1])]
        return topmost(sort, firsts + seconds)
    if sort[0] == "either":
        inner = side_sort(sort, v[0])
        return topmost(sort, [(v[0], limit) for limit in not_above(inner, v[1])] + _other_side(sort, v[0]))
    if not v:
        return []
    return [_row_not_above(sort[1], v)] if sort[0] == "lane" else _bags_not_above(sort, v)


def _other_side(sort, side):
    return [limit for limit in whole(sort) if limit[0] != side]


def _home(sort, v):
    """The limit of everything inside which v lies."""
    for limit in whole(sort):
        if inside(sort, limit, v):
            return limit
    return None


def _row_not_above(inner, v):
    pieces = []
    for part in v[:-1]:
        pieces.append(often_of(inner, not_above(inner, part)))
        pieces.append(("once", _home(inner, part)))
    return row_of(inner, pieces + [often_of(inner, not_above(inner, v[-1]))])


def _bags_not_above(sort, v):
    """For each choice of elements in one home: a once less than there are such, and often what holds none of them."""
    inner = sort[1]
    found = []
    for home in whole(inner):
        choices = _without_each(inner, [part for part in v if inside(inner, home, part)])
        found.extend([bag_of(inner, [home] * (many - 1), often) for many, often in choices if many > 0])
    return topmost(sort, found)


def _without_each(inner, parts):
    """For each choice of some parts how many they are, and the limits of what holds none of them."""
    found = [(0, whole(inner))]
    for place, part in enumerate(parts):
        # Equal parts go together: one of them alone would bring a lesser limit.
        if part not in parts[:place]:
            others, more = not_above(inner, part), parts.count(part)
            found = found + [(many + more, met_lists(inner, often, others)) for many, often in found]
    return found
