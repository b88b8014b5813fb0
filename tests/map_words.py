"""Maps by the words of the document."""

import itertools
import math

from helpers import key, least, least_values_of
from lossbars.errors import TooMany
from lossbars.limits import shaped
from lossbars.values import is_value


def parts_of(sort, place=()):
    """All (place, part) of a sort."""
    found = [(place, sort)]
    for at in range(1, len(sort)):
        if sort[0] != "mark":
            found += parts_of(sort[at], place + (at,))
    return found


def maps_of(draw, sort):
    """For each part of a sort each kind of map that fits, of merged letters one."""
    found = []
    for place, part in parts_of(sort):
        if part[0] == "lane":
            found.append(("heaped", place))
        if part[0] in ("lane", "heap"):
            found.append(("counted", place))
        if part[0] == "both":
            found += [("dropped", place, 0), ("dropped", place, 1)]
        if part[0] == "mark":
            letters = draw.sample(part[1], draw.randint(0, len(part[1])))
            words = [draw.choice(part[1] + ("new", "z")) for _ in letters]
            found.append(("merged", place, tuple(zip(letters, words))))
    return found


def told_sort(sort, change):
    word, place = change[:2]
    if place:
        at, rest = place[0], (word, place[1:]) + change[2:]
        return tuple(told_sort(part, rest) if k == at else part for k, part in enumerate(sort))
    if word == "merged":
        names = dict(change[2])
        return ("mark", tuple(dict.fromkeys(names.get(letter, letter) for letter in sort[1])))
    return {"heaped": lambda: ("heap", sort[1]), "counted": lambda: ("count",),
            "dropped": lambda: sort[1] if change[2] == 1 else sort[2]}[word]()


def told_value(sort, change, v):
    word, place = change[:2]
    if place:
        at, rest = place[0], (word, place[1:]) + change[2:]
        if sort[0] == "both":
            return tuple(told_value(sort[at], rest, part) if k == at - 1 else part for k, part in enumerate(v))
        if sort[0] == "either":
            return (v[0], told_value(sort[at], rest, v[1])) if v[0] == ("left", "right")[at - 1] else v
        parts = [told_value(sort[1], rest, part) for part in v]
        return tuple(parts) if sort[0] == "lane" else tuple(sorted(parts, key=lambda w: key(told_sort(sort[1], rest), w)))
    if word == "heaped":
        return tuple(sorted(v, key=lambda w: key(sort[1], w)))
    if word == "counted":
        return len(v)
    return dict(change[2]).get(v, v) if word == "merged" else v[1] if change[2] == 0 else v[0]


def told_limit(sort, change, limit):
    """The led limit in some form, of any size."""
    word, place = change[:2]
    if place:
        at, rest = place[0], (word, place[1:]) + change[2:]
        if sort[0] == "both":
            return tuple(told_limit(sort[at], rest, part) if k == at else part for k, part in enumerate(limit))
        if sort[0] == "either":
            return (limit[0], told_limit(sort[at], rest, limit[1])) if limit[0] == ("left", "right")[at - 1] else limit
        if sort[0] == "heap":
            return ("bag",) + tuple(tuple(told_limit(sort[1], rest, one) for one in told) for told in limit[1:])
        return ("row", tuple((kind, told_limit(sort[1], rest, told)) if kind == "once" else
                             (kind, tuple(told_limit(sort[1], rest, one) for one in told)) for kind, told in limit[1]))
    if word == "heaped":
        return ("bag", tuple(told for kind, told in limit[1] if kind == "once"),
                tuple(one for kind, told in limit[1] if kind == "often" for one in told))
    if word == "counted":
        onces = [piece for piece in limit[1] if piece[0] == "once"] if limit[0] == "row" else limit[1]
        endless = len(onces) < len(limit[1]) if limit[0] == "row" else bool(limit[2])
        return ("all",) if endless else ("to", len(onces))
    return ("is", dict(change[2]).get(limit[1], limit[1])) if word == "merged" else limit[2] if change[2] == 0 else limit[1]


def told_led_limit(sort, change, limit):
    return shaped(told_sort(sort, change), told_limit(sort, change, limit))


def told_act(sort, change, act):
    word, place = act[0], change[1]
    if word == "stay":
        return act
    if word in ("need", "set"):
        return (word, told_value(sort, change, act[1]))
    if word in ("then", "or"):
        return (word, told_act(sort, change, act[1]), told_act(sort, change, act[2]))
    if not place:
        return told_act_here(change, act)
    at, rest = place[0], (change[0], place[1:]) + change[2:]
    if sort[0] in ("both", "either"):
        own = {"both": ("first", "second"), "either": ("left", "right")}[sort[0]][at - 1]
        return (word, told_act(sort[at], rest, act[1])) if word == own else act
    if word == "any":
        return (word, told_act(sort[1], rest, act[1]))
    return (word, told_value(sort[1], rest, act[1]))


def told_act_here(change, act):
    if change[0] == "heaped":
        return ({"receive": "take", "send": "put"}.get(act[0], act[0]),) + act[1:]
    if change[0] == "counted":
        return {"send": ("add", 1), "put": ("add", 1), "receive": ("take", 1), "take": ("take", 1), "any": ("need", 1)}[act[0]]
    if change[0] == "dropped":
        return ("stay",) if act[0] == ("first", "second")[change[2]] else act[1]
    one, other = (dict(change[2]).get(letter, letter) for letter in act[1:])
    return ("stay",) if one == other else ("turn", one, other)


def told_choices(sort, change, u):
    """The number of choices of a value of the led sort by the words of [9.3]."""
    word, place = change[:2]
    if place:
        at, rest = place[0], (word, place[1:]) + change[2:]
        if sort[0] == "both":
            return told_choices(sort[at], rest, u[at - 1])
        if sort[0] == "either":
            return told_choices(sort[at], rest, u[1]) if u[0] == ("left", "right")[at - 1] else 1
        return math.prod(told_choices(sort[1], rest, part) for part in u)
    if word == "heaped":
        return math.factorial(len(u))
    if word == "counted":
        return len(least_values_of(sort[1])) ** u
    if word == "dropped":
        return len(least_values_of(sort[change[2] + 1]))
    return [dict(change[2]).get(letter, letter) for letter in sort[1]].count(u)


def told_back(sort, change, some):
    """The least list of the values whose led ones are in the up-set of some; TooMany as [9.3] tells."""
    if sum(told_choices(sort, change, u) for u in some) > 500:
        raise TooMany()
    found = least(sort, [v for u in some for v in sources(sort, change, u)])
    if not all(is_value(sort, v) for v in found):
        raise TooMany()
    return found


def sources(sort, change, u):
    """The values that are led to just this one, with as little else as can be."""
    word, place = change[:2]
    if place:
        at, rest = place[0], (word, place[1:]) + change[2:]
        if sort[0] == "both":
            return [u[:at - 1] + (v,) + u[at:] for v in sources(sort[at], rest, u[at - 1])]
        if sort[0] == "either":
            return [(u[0], v) for v in sources(sort[at], rest, u[1])] if u[0] == ("left", "right")[at - 1] else [u]
        rows = itertools.product(*[sources(sort[1], rest, part) for part in u])
        return [as_store(sort, row) for row in rows]
    if word == "heaped":
        return list(itertools.permutations(u))
    if word == "counted":
        return [as_store(sort, row) for row in itertools.product(least_values_of(sort[1]), repeat=u)]
    if word == "dropped":
        out = least_values_of(sort[change[2] + 1])
        return [(v, u) if change[2] == 0 else (u, v) for v in out]
    return [letter for letter in sort[1] if dict(change[2]).get(letter, letter) == u]


def as_store(sort, row):
    return tuple(row) if sort[0] == "lane" else tuple(sorted(row, key=lambda v: key(sort[1], v)))
