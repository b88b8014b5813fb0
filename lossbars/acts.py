"""Acts: what a rule does to a value."""

from lossbars.errors import BadAct, TooMany
from lossbars.forms import MOST_NUMBER, MOST_PARTS, as_heap, check_value, form_fault, in_order, is_number, side_sort
from lossbars.holding import above
from lossbars.sorts import check_sort

MOST_STEP = 20
# How many parts an act of any sort has, by its word.
COMMON_ACTS = {"stay": 1, "need": 2, "set": 2, "then": 3, "or": 3}
OWN_ACTS = {
    "mark": ("turn",),
    "count": ("add", "take"),
    "both": ("first", "second"),
    "either": ("left", "right"),
    "lane": ("send", "receive", "any"),
    "heap": ("put", "take", "any"),
}


def check_act(sort, act):
    """None if act, any value, is an act of the sort; else BadAct with the path to what is wrong first."""
    check_sort(sort)
    # Acts may be put within one another however often, so they wait in a list and no call stands in another one.
    waiting = [((), sort, act)]
    while waiting:
        path, inner, part = waiting.pop()
        fault = _own_fault(inner, part)
        if fault is not None:
            raise BadAct(path + fault)
        for place, deeper in reversed(_acts_within(inner, part)):
            waiting.append((path + (place,), deeper, part[place]))


def results(sort, act, v):
    """The ascending list of all that comes of v by the act."""
    check_act(sort, act)
    check_value(sort, v)
    return act_results(sort, act, v)


def _own_fault(sort, act):
    """The path to what is wrong with an act, the acts within it aside; None if nothing is."""
    if not isinstance(act, tuple) or not act or not isinstance(act[0], str):
        return ()
    if len(act) != _part_count(sort, act[0]):
        return ()
    if act[0] == "turn":
        return _turn_fault(sort[1], act[1], act[2])
    right = True
    if act[0] in ("need", "set"):
        right = form_fault(sort, act[1]) is None
    elif sort[0] == "count" and act[0] in ("add", "take"):
        right = is_number(act[1], 1, MOST_STEP)
    elif act[0] in ("send", "receive", "put", "take"):
        right = form_fault(sort[1], act[1]) is None
    return None if right else (1,)


def _part_count(sort, word):
    """How many parts an act of this word has; 0 if the sort has none."""
    if word in COMMON_ACTS:
        return COMMON_ACTS[word]
    if word in OWN_ACTS[sort[0]]:
        return 3 if word == "turn" else 2
    return 0


def _turn_fault(letters, one, other):
    for place, letter in ((1, one), (2, other)):
        if not isinstance(letter, str) or letter not in letters:
            return (place,)
    return () if one == other else None


def _acts_within(sort, act):
    """The places and sorts of the acts directly within an act."""
    if act[0] in ("then", "or"):
        return [(1, sort), (2, sort)]
    if act[0] in ("first", "any"):
        return [(1, sort[1])]
    if act[0] == "second":
        return [(1, sort[2])]
    return [(1, side_sort(sort, act[0]))] if act[0] in ("left", "right") else []


def act_results(sort, act, v):
    """As results, for what is known to be right; a list that is asked within it passes the bounds as this one may."""
    return in_order(sort, list({value: True for value in _came(sort, act, v)}))


def _came(sort, act, v):
    word = act[0]
    if word == "stay":
        return [v]
    if word == "need":
        return [v] if above(sort, v, act[1]) else []
    if word == "set":
        return [act[1]]
    if word == "then":
        return [last for first in act_results(sort, act[1], v) for last in act_results(sort, act[2], first)]
    if word == "or":
        return act_results(sort, act[1], v) + act_results(sort, act[2], v)
    return _came_of_own(sort, act, v)


def _came_of_own(sort, act, v):
    """What comes by an act that only this kind of sort has."""
    word, told = act[0], act[1]
    if word == "turn":
        return [act[2]] if v == told else []
    if word == "first":
        return [(part, v[1]) for part in act_results(sort[1], told, v[0])]
    if word == "second":
        return [(v[0], part) for part in act_results(sort[2], told, v[1])]
    if word in ("left", "right"):
        return [(word, part) for part in act_results(side_sort(sort, word), told, v[1])] if v[0] == word else []
    if sort[0] == "count":
        return _came_of_count(word, told, v)
    return _came_of_lane(sort, word, told, v) if sort[0] == "lane" else _came_of_heap(sort, word, told, v)


def _came_of_count(word, many, v):
    if word == "take":
        return [v - many] if v >= many else []
    if v + many > MOST_NUMBER:
        raise TooMany()
    return [v + many]


def _came_of_lane(sort, word, told, v):
    if word == "any":
        return _exchanged(sort[1], told, v)
    if word == "receive":
        for place, part in enumerate(v):
            if above(sort[1], part, told):
                return [v[place + 1:]]
        return []
    if len(v) == MOST_PARTS:
        raise TooMany()
    return [v + (told,)]


def _came_of_heap(sort, word, told, v):
    if word == "any":
        return [as_heap(sort[1], made) for made in _exchanged(sort[1], told, v)]
    if word == "take":
        return [v[:place] + v[place + 1:] for place, part in enumerate(v) if above(sort[1], part, told)]
    if len(v) == MOST_PARTS:
        raise TooMany()
    return [as_heap(sort[1], v + (told,))]


def _exchanged(inner, act, v):
    """v with one element exchanged for a result of it, for each element and each result."""
    return [
        v[:place] + (came,) + v[place + 1:]
        for place, part in enumerate(v)
        for came in act_results(inner, act, part)
    ]
