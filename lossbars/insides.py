"""The order of limits, which lie within which, and what lies inside them, for limits that are known to be right."""

from lossbars.forms import side_sort
from lossbars.holding import matched


def limits_in_order(sort, limits):
    """The list of some limits, ascending."""
    return sorted(limits, key=lambda limit: limit_rank(sort, limit))


def limit_rank(sort, limit):
    """What compares as the limit does in the order of limits of its sort."""
    if sort[0] == "mark":
        return sort[1].index(limit[1])
    if sort[0] == "count":
        return (0, limit[1]) if limit[0] == "to" else (1, 0)
    if sort[0] == "both":
        return (limit_rank(sort[1], limit[1]), limit_rank(sort[2], limit[2]))
    if sort[0] == "either":
        return (0 if limit[0] == "left" else 1, limit_rank(side_sort(sort, limit[0]), limit[1]))
    if sort[0] == "lane":
        return tuple([_piece_rank(sort[1], piece) for piece in limit[1]])
    return (_ranks(sort[1], limit[1]), _ranks(sort[1], limit[2]))


def _ranks(sort, limits):
    return tuple([limit_rank(sort, limit) for limit in limits])


def _piece_rank(inner, piece):
    if is_once(piece):
        return (0, limit_rank(inner, piece[1]))
    return (1, _ranks(inner, piece[1]))


def within(sort, one, two):
    """Whether all that is inside one is inside two."""
    if sort[0] == "mark":
        return one == two
    if sort[0] == "count":
        return two[0] == "all" or (one[0] == "to" and one[1] <= two[1])
    if sort[0] == "both":
        return within(sort[1], one[1], two[1]) and within(sort[2], one[2], two[2])
    if sort[0] == "either":
        return one[0] == two[0] and within(side_sort(sort, one[0]), one[1], two[1])
    if one == two:
        return True
    if sort[0] == "lane":
        return row_within(sort[1], one[1], two[1])
    return _bag_within(sort[1], one, two)


def within_one(sort, limit, limits):
    """Whether a limit lies within one of some."""
    if limit in limits:
        return True
    for other in limits:
        if within(sort, limit, other):
            return True
    return False


def is_once(piece):
    """Whether a piece takes one element at most."""
    return piece[0] == "once"


def limits_of(piece):
    """The limits of a piece."""
    return (piece[1],) if is_once(piece) else piece[1]


def piece_within(inner, piece, other):
    """Whether a piece lies within another one."""
    if is_once(other):
        return is_once(piece) and within(inner, piece[1], other[1])
    for limit in limits_of(piece):
        if not within_one(inner, limit, other[1]):
            return False
    return True


def row_within(inner, pieces, others):
    """Whether the row of these pieces lies within that of the other ones."""
    at = 0
    for other in others:
        # A once takes one piece at most, an often as many as lie within it.
        while at < len(pieces) and piece_within(inner, pieces[at], other):
            at += 1
            if is_once(other):
                break
    return at == len(pieces)


def _bag_within(inner, one, two):
    for limit in one[2]:
        if not within_one(inner, limit, two[2]):
            return False
    rest, spots = [], list(two[1])
    for limit in one[1]:
        # If there is a way at all, there is one by which equal ones go together.
        if limit in spots:
            spots.remove(limit)
        elif not within_one(inner, limit, two[2]):
            rest.append(limit)
    if len(rest) > len(spots):
        return False
    return matched(len(rest), len(spots), lambda k, spot: within(inner, rest[k], spots[spot]))


def inside(sort, limit, v):
    """Whether a value lies inside a limit."""
    if sort[0] == "mark":
        return limit[1] == v
    if sort[0] == "count":
        return limit[0] == "all" or v <= limit[1]
    if sort[0] == "both":
        return inside(sort[1], limit[1], v[0]) and inside(sort[2], limit[2], v[1])
    if sort[0] == "either":
        return limit[0] == v[0] and inside(side_sort(sort, v[0]), limit[1], v[1])
    if sort[0] == "lane":
        return _lane_inside(sort[1], limit[1], v)
    rest = [part for part in v if not inside_one(sort[1], limit[2], part)]
    return matched(len(rest), len(limit[1]), lambda k, spot: inside(sort[1], limit[1][spot], rest[k]))


def inside_one(sort, limits, v):
    """Whether a value lies inside one of some limits."""
    for limit in limits:
        if inside(sort, limit, v):
            return True
    return False


def _lane_inside(inner, pieces, v):
    at = 0
    for piece in pieces:
        while at < len(v) and inside_one(inner, limits_of(piece), v[at]):
            at += 1
            if is_once(piece):
                break
    return at == len(v)
