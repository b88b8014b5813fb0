"""Backs: the values from which an act leads to what holds a value."""

from lossbars.acts import check_act
from lossbars.errors import TooMany
from lossbars.forms import as_heap, check_value, check_values, lowest, side_sort, value_fault
from lossbars.holding import above
from lossbars.joints import bounded_joint, least_ones

MOST_VALUES = 60


def back(sort, act, b):
    """The least list of the values of which some result by the act holds b."""
    check_act(sort, act)
    check_value(sort, b)
    return act_back(sort, act, b)


def back_list(sort, act, some):
    """The least list of the values that are in the back of one of some."""
    check_act(sort, act)
    check_values(sort, some)
    return _listed(sort, [v for b in some for v in act_back(sort, act, b)])


def act_back(sort, act, b):
    """As back, for what is known to be right; a list that is asked within it is bounded as this one is."""
    return _listed(sort, _gone_back(sort, act, b))


def _listed(sort, found):
    """The least list of some values; TooMany if it has too many, or one that passes the bounds of values."""
    kept = least_ones(sort, found, MOST_VALUES)
    for value in kept:
        if value_fault(sort, value) is not None:
            raise TooMany()
    return kept


def _gone_back(sort, act, b):
    word = act[0]
    if word == "stay":
        return [b]
    if word == "need":
        return bounded_joint(sort, act[1], b)
    if word == "set":
        return lowest(sort) if above(sort, act[1], b) else []
    if word == "then":
        return [v for u in act_back(sort, act[2], b) for v in act_back(sort, act[1], u)]
    if word == "or":
        return act_back(sort, act[1], b) + act_back(sort, act[2], b)
    return _gone_back_by_own(sort, act, b)


def _gone_back_by_own(sort, act, b):
    """What is back by an act that only this kind of sort has."""
    word, told = act[0], act[1]
    if word == "turn":
        return [told] if b == act[2] else []
    if word == "first":
        return [(part, b[1]) for part in act_back(sort[1], told, b[0])]
    if word == "second":
        return [(b[0], part) for part in act_back(sort[2], told, b[1])]
    if word in ("left", "right"):
        return [(word, part) for part in act_back(side_sort(sort, word), told, b[1])] if b[0] == word else []
    if sort[0] == "count":
        return [max(0, b - told)] if word == "add" else [b + told]
    return _gone_back_of_lane(sort[1], word, told, b) if sort[0] == "lane" else _gone_back_of_heap(sort, word, told, b)


def _gone_back_of_lane(inner, word, told, b):
    if word == "any":
        return _exchanged(inner, told, b, len(b) + 1)
    if word == "receive":
        return [(told,) + b]
    return [b[:-1]] if b and above(inner, told, b[-1]) else [b]


def _gone_back_of_heap(sort, word, told, b):
    inner = sort[1]
    if word == "any":
        return [as_heap(inner, made) for made in _exchanged(inner, told, b, 1)]
    if word == "take":
        return [as_heap(inner, b + (told,))]
    less = [b[:place] + b[place + 1:] for place, part in enumerate(b) if above(inner, told, part)]
    return less if less else [b]


def _exchanged(inner, act, b, spots):
    """b with one element exchanged for one of its back, or with one of the back of a least value put in at a spot."""
    backs = {}
    for part in b:
        if part not in backs:
            backs[part] = act_back(inner, act, part)
    found = [b[:place] + (came,) + b[place + 1:] for place, part in enumerate(b) for came in backs[part]]
    more = least_ones(inner, [came for part in lowest(inner) for came in act_back(inner, act, part)])
    return found + [b[:spot] + (came,) + b[spot:] for came in more for spot in range(spots)]
