"""The form of limits, for sorts that are known to be right."""

from lossbars.errors import BadLimit
from lossbars.forms import MOST_NUMBER, MOST_PARTS, is_number, side_sort
from lossbars.insides import is_once, limits_in_order, piece_within, within_one
from lossbars.tables import topmost

MOST_PIECES = 17


def limit_fault(sort, data):
    """The path to the first limit or piece in data that is none; None for a limit in some form."""
    if not _own_form(sort, data):
        return ()
    for path, inner, part in _parts(sort, data):
        fault = limit_fault(inner, part)
        if fault is not None:
            return path + fault
    return None


def _own_form(sort, data):
    if not isinstance(data, tuple) or not data:
        return False
    word = sort[0]
    if word == "mark":
        return len(data) == 2 and data[0] == "is" and isinstance(data[1], str) and data[1] in sort[1]
    if word == "count":
        return data == ("all",) or (len(data) == 2 and data[0] == "to" and is_number(data[1], 0, MOST_NUMBER))
    if word == "both":
        return len(data) == 3 and data[0] == "pair"
    if word == "either":
        return len(data) == 2 and data[0] in ("left", "right")
    if word == "lane":
        return len(data) == 2 and data[0] == "row" and isinstance(data[1], tuple) and len(data[1]) <= MOST_PIECES
    if len(data) != 3 or data[0] != "bag" or not isinstance(data[1], tuple) or not isinstance(data[2], tuple):
        return False
    return len(data[1]) <= MOST_PARTS


def _parts(sort, data):
    """What stands for limits directly within one, with paths and sorts, in order."""
    if sort[0] == "both":
        return [((1,), sort[1], data[1]), ((2,), sort[2], data[2])]
    if sort[0] == "either":
        return [((1,), side_sort(sort, data[0]), data[1])]
    if sort[0] == "lane":
        return [((1, k) + path, sort[1], part) for k, piece in enumerate(data[1]) for path, part in _in_piece(piece)]
    if sort[0] == "heap":
        return [((at, k), sort[1], part) for at in (1, 2) for k, part in enumerate(data[at])]
    return []


def _in_piece(piece):
    if isinstance(piece, tuple) and len(piece) == 2:
        if piece[0] == "once":
            return [((1,), piece[1])]
        if piece[0] == "often" and isinstance(piece[1], tuple):
            return [((1, k), part) for k, part in enumerate(piece[1])]
    # What is no piece is no limit either, so it is told as one, at its own place.
    return [((), None)]


def check_limit(sort, limit, ahead=()):
    """BadLimit for what is no limit in its one form; ahead stands ahead of the path."""
    fault = limit_fault(sort, limit)
    if fault is None and one_form(sort, limit) != limit:
        fault = ()
    if fault is not None:
        raise BadLimit(ahead + fault)


def check_limits(sort, limits):
    """BadLimit for the first of some that is no limit in its one form."""
    for place, limit in enumerate(limits):
        check_limit(sort, limit, (place,))


def one_form(sort, limit):
    """The limit in one form that tells the same as a limit in some form."""
    if sort[0] == "both":
        return ("pair", one_form(sort[1], limit[1]), one_form(sort[2], limit[2]))
    if sort[0] == "either":
        return (limit[0], one_form(side_sort(sort, limit[0]), limit[1]))
    if sort[0] == "lane":
        return row_of(sort[1], [_piece_form(sort[1], piece) for piece in limit[1]])
    if sort[0] == "heap":
        return bag_of(sort[1], _forms(sort[1], limit[1]), _forms(sort[1], limit[2]))
    return limit


def _forms(sort, limits):
    return [one_form(sort, limit) for limit in limits]


def _piece_form(inner, piece):
    if is_once(piece):
        return ("once", one_form(inner, piece[1]))
    return often_of(inner, _forms(inner, piece[1]))


def often_of(inner, limits):
    """The piece of any number of elements, each inside one of these limits."""
    return ("often", tuple(topmost(inner, limits)))


def row_of(inner, pieces):
    """The row of pieces whose limits are in one form."""
    kept = []
    for piece in pieces:
        while kept and _swallows(inner, piece, kept[-1]):
            kept.pop()
        if piece != ("often", ()) and not (kept and _swallows(inner, kept[-1], piece)):
            kept.append(piece)
    return ("row", tuple(kept))


def _swallows(inner, piece, other):
    """Whether a piece is an often that the other one beside it adds nothing to."""
    return not is_once(piece) and piece_within(inner, other, piece)


def bag_of(inner, onces, often):
    """The bag of limits that are in one form."""
    many = topmost(inner, often)
    return ("bag", tuple(limits_in_order(inner, [x for x in onces if not within_one(inner, x, many)])), tuple(many))


def told_limit(sort, v):
    """The limit of all that a value holds."""
    if sort[0] == "mark":
        return ("is", v)
    if sort[0] == "count":
        return ("to", v)
    if sort[0] == "both":
        return ("pair", told_limit(sort[1], v[0]), told_limit(sort[2], v[1]))
    if sort[0] == "either":
        return (v[0], told_limit(side_sort(sort, v[0]), v[1]))
    limits = [told_limit(sort[1], part) for part in v]
    if sort[0] == "lane":
        return ("row", tuple([("once", limit) for limit in limits]))
    return bag_of(sort[1], limits, [])


def whole(sort):
    """The list of limits that has all values inside."""
    if sort[0] == "mark":
        return [("is", letter) for letter in sort[1]]
    if sort[0] == "count":
        return [("all",)]
    if sort[0] == "both":
        return [("pair", first, second) for first in whole(sort[1]) for second in whole(sort[2])]
    if sort[0] == "either":
        return [(side, limit) for side in ("left", "right") for limit in whole(side_sort(sort, side))]
    if sort[0] == "lane":
        return [("row", (often_of(sort[1], whole(sort[1])),))]
    return [bag_of(sort[1], [], whole(sort[1]))]
