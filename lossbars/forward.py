"""Forths: what is held by the results of the values inside a limit."""

from lossbars.acts import check_act
from lossbars.errors import TooMany
from lossbars.forms import side_sort
from lossbars.insides import inside, inside_one, is_once, limits_of
from lossbars.shapes import bag_of, check_limit, check_limits, limit_fault, row_of, told_limit
from lossbars.tables import topmost


def forth(sort, act, limit):
    """The list of limits of the values that some result of a value inside the limit holds."""
    check_act(sort, act)
    check_limit(sort, limit)
    return act_forth(sort, act, limit)


def forth_list(sort, act, limits):
    """The list of limits of what is forth of one of limits."""
    check_act(sort, act)
    check_limits(sort, limits)
    return _listed(sort, [came for limit in limits for came in act_forth(sort, act, limit)])


def act_forth(sort, act, limit):
    """As forth, for what is known to be right; a list that is asked within it is bounded as this one is."""
    return _listed(sort, _gone_forth(sort, act, limit))


def _listed(sort, found):
    """The list of those limits that lie within no other one; TooMany if one passes the bounds of limits."""
    kept = topmost(sort, found)
    for limit in kept:
        # A limit that was made here has no fault but that it passes the bounds.
        if limit_fault(sort, limit) is not None:
            raise TooMany()
    return kept


def _gone_forth(sort, act, limit):
    word = act[0]
    if word == "stay":
        return [limit]
    if word == "need":
        return [limit] if inside(sort, limit, act[1]) else []
    if word == "set":
        return [told_limit(sort, act[1])]
    if word == "then":
        return [last for first in act_forth(sort, act[1], limit) for last in act_forth(sort, act[2], first)]
    if word == "or":
        return act_forth(sort, act[1], limit) + act_forth(sort, act[2], limit)
    return _gone_forth_by_own(sort, act, limit)


def _gone_forth_by_own(sort, act, limit):
    """What is forth by an act that only this kind of sort has."""
    word, told = act[0], act[1]
    if word == "turn":
        return [("is", act[2])] if limit[1] == told else []
    if word == "first":
        return [("pair", came, limit[2]) for came in act_forth(sort[1], told, limit[1])]
    if word == "second":
        return [("pair", limit[1], came) for came in act_forth(sort[2], told, limit[2])]
    if word in ("left", "right"):
        inner = side_sort(sort, word)
        return [(word, came) for came in act_forth(inner, told, limit[1])] if limit[0] == word else []
    if sort[0] == "count":
        return _gone_forth_of_count(word, told, limit)
    if sort[0] == "lane":
        return _gone_forth_of_row(sort[1], word, told, limit[1])
    return _gone_forth_of_bag(sort[1], word, told, limit)


def _gone_forth_of_count(word, many, limit):
    if limit[0] == "all":
        return [limit]
    if word == "add":
        return [("to", limit[1] + many)]
    return [("to", limit[1] - many)] if limit[1] >= many else []


def _gone_forth_of_row(inner, word, told, pieces):
    if word == "any":
        return _rows_exchanged(inner, told, pieces)
    if word == "send":
        return [row_of(inner, pieces + (("once", told_limit(inner, told)),))]
    for place, piece in enumerate(pieces):
        if inside_one(inner, limits_of(piece), told):
            return [("row", pieces[place + 1:] if is_once(piece) else pieces[place:])]
    return []


def _rows_exchanged(inner, act, pieces):
    """The rows in which one element that a piece takes is exchanged for a result of it."""
    found = []
    for place, piece in enumerate(pieces):
        # An often has elements ahead of the one that is exchanged, and behind it.
        beside = () if is_once(piece) else (piece,)
        for limit in limits_of(piece):
            for came in act_forth(inner, act, limit):
                stands = beside + (("once", came),) + beside
                found.append(row_of(inner, pieces[:place] + stands + pieces[place + 1:]))
    return found


def _gone_forth_of_bag(inner, word, told, limit):
    _, onces, often = limit
    if word == "any":
        return _bags_exchanged(inner, told, onces, often)
    if word == "put":
        return [bag_of(inner, onces + (told_limit(inner, told),), often)]
    if inside_one(inner, often, told):
        return [limit]
    places = [place for place, once in enumerate(onces) if inside(inner, once, told)]
    return [("bag", onces[:place] + onces[place + 1:], often) for place in places]


def _bags_exchanged(inner, act, onces, often):
    """The bags in which one element is exchanged for a result of it."""
    found = []
    for place, once in enumerate(onces):
        for came in act_forth(inner, act, once):
            found.append(bag_of(inner, onces[:place] + (came,) + onces[place + 1:], often))
    for limit in often:
        found.extend([bag_of(inner, onces + (came,), often) for came in act_forth(inner, act, limit)])
    return found
