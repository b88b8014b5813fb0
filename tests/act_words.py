"""Acts by the words of the document: what comes of them, what is back of them, what is forth."""

from helpers import above, inside, key, least, least_values_of, side, some_value
from lossbars.errors import TooMany
from lossbars.leasts import both_held
from lossbars.limits import limit_list, limit_of, shaped
from lossbars.values import is_value


def some_act(draw, sort, many):
    """An act that puts at most many others behind one another or within."""
    words = ["stay", "need", "set"] + (["then", "or"] if many else [])
    words += {"mark": [], "count": ["add", "take"] * 2, "lane": ["send", "receive"] * 2, "heap": ["put", "take"] * 2}.get(
        sort[0], [])
    if sort[0] == "mark" and len(sort[1]) > 1:
        words += ["turn"] * 3
    if many:
        words += {"both": ["first", "second"] * 2, "either": ["left", "right"] * 2, "lane": ["any"] * 2,
                  "heap": ["any"] * 2}.get(sort[0], [])
    word = draw.choice(words)
    if word == "stay":
        return (word,)
    if word in ("need", "set"):
        return (word, some_value(draw, sort, 3, 2))
    if word in ("then", "or"):
        return (word, some_act(draw, sort, many - 1), some_act(draw, sort, many - 1))
    if word == "turn":
        return ("turn",) + tuple(draw.sample(sort[1], 2))
    if sort[0] == "count":
        return (word, draw.randint(1, 3))
    if word in ("first", "left", "any"):
        return (word, some_act(draw, sort[1], many - 1))
    if word in ("second", "right"):
        return (word, some_act(draw, sort[2], many - 1))
    return (word, some_value(draw, sort[1], 3, 2))


def told_results(sort, act, v):
    """All results by the words of [4.2], ascending, each once."""
    return sorted(set(came(sort, act, v)), key=lambda w: key(sort, w))


def came(sort, act, v):
    word = act[0]
    if word in ("stay", "need"):
        return [v] if word == "stay" or above(sort, v, act[1]) else []
    if word == "set":
        return [act[1]]
    if word == "then":
        return [w for u in came(sort, act[1], v) for w in came(sort, act[2], u)]
    if word == "or":
        return came(sort, act[1], v) + came(sort, act[2], v)
    if word == "turn":
        return [act[2]] if v == act[1] else []
    if sort[0] == "count":
        found = v + act[1] if word == "add" else v - act[1]
        return [found] if found >= 0 else []
    if word in ("first", "second"):
        place = 0 if word == "first" else 1
        return [v[:place] + (w,) + v[place + 1:] for w in came(sort[place + 1], act[1], v[place])]
    if word in ("left", "right"):
        inner = sort[1] if word == "left" else sort[2]
        return [(word, w) for w in came(inner, act[1], v[1])] if v[0] == word else []
    found = {
        "any": lambda: [v[:k] + (w,) + v[k + 1:] for k, part in enumerate(v) for w in came(sort[1], act[1], part)],
        "send": lambda: [v + (act[1],)],
        "put": lambda: [v + (act[1],)],
        "receive": lambda: [v[k + 1:] for k, part in enumerate(v) if above(sort[1], part, act[1])][:1],
        "take": lambda: [v[:k] + v[k + 1:] for k, part in enumerate(v) if above(sort[1], part, act[1])],
    }[word]()
    return found if sort[0] == "lane" else [tuple(sorted(w, key=lambda part: key(sort[1], part))) for w in found]


def told_back(sort, act, b):
    """The least list of what is back of b by the words of [4.3]; TooMany above 60 values or past the bounds."""
    return bounded(sort, gone_back(sort, act, b))


def bounded(sort, some):
    found = least(sort, some)
    if len(found) > 60 or not all(is_value(sort, v) for v in found):
        raise TooMany()
    return found


def gone_back(sort, act, b):
    word = act[0]
    if word == "stay":
        return [b]
    if word == "need":
        return both_held(sort, act[1], b)
    if word == "set":
        return least_values_of(sort) if above(sort, act[1], b) else []
    if word == "then":
        return [v for u in told_back(sort, act[2], b) for v in told_back(sort, act[1], u)]
    if word == "or":
        return told_back(sort, act[1], b) + told_back(sort, act[2], b)
    if word == "turn":
        return [act[1]] if b == act[2] else []
    if sort[0] == "count":
        return [max(b - act[1], 0) if word == "add" else b + act[1]]
    if word in ("first", "second"):
        place = 0 if word == "first" else 1
        return [b[:place] + (v,) + b[place + 1:] for v in told_back(sort[place + 1], act[1], b[place])]
    if word in ("left", "right"):
        return [(word, v) for v in told_back(side(sort, word), act[1], b[1])] if b[0] == word else []
    return gone_back_of_store(sort, word, act[1], b)


def gone_back_of_store(sort, word, told, b):
    inner = sort[1]
    if word == "send":
        return [b[:-1] if b and above(inner, told, b[-1]) else b]
    if word == "receive":
        return [(told,) + b]
    if word == "take":
        return [as_heap(inner, b + (told,))]
    if word == "put":
        return [b[:k] + b[k + 1:] for k, part in enumerate(b) if above(inner, told, part)] or [b]
    found = [b[:k] + (v,) + b[k + 1:] for k, part in enumerate(b) for v in told_back(inner, told, part)]
    more = [v for part in least_values_of(inner) for v in told_back(inner, told, part)]
    found += [b[:k] + (v,) + b[k:] for v in more for k in range(len(b) + 1)]
    return found if sort[0] == "lane" else [as_heap(inner, v) for v in found]


def as_heap(inner, parts):
    return tuple(sorted(parts, key=lambda part: key(inner, part)))


def told_forth(sort, act, limit):
    """What is forth of a limit by the words of [4.4], without bounds."""
    return limit_list(sort, [shaped(sort, came) for came in gone_forth(sort, act, limit)])


def gone_forth(sort, act, limit):
    word = act[0]
    if word in ("stay", "need"):
        return [limit] if word == "stay" or inside(sort, limit, act[1]) else []
    if word == "set":
        return [limit_of(sort, act[1])]
    if word == "then":
        return [last for one in told_forth(sort, act[1], limit) for last in told_forth(sort, act[2], one)]
    if word == "or":
        return gone_forth(sort, act[1], limit) + gone_forth(sort, act[2], limit)
    if word == "turn":
        return [("is", act[2])] if limit == ("is", act[1]) else []
    if sort[0] == "count":
        if limit == ("all",):
            return [limit]
        number = limit[1] + act[1] if word == "add" else limit[1] - act[1]
        return [("to", number)] if number >= 0 else []
    if word in ("first", "second"):
        place = 1 if word == "first" else 2
        return [limit[:place] + (came,) + limit[place + 1:] for came in told_forth(sort[place], act[1], limit[place])]
    if word in ("left", "right"):
        return [(word, came) for came in told_forth(side(sort, word), act[1], limit[1])] if limit[0] == word else []
    return (forth_of_row if sort[0] == "lane" else forth_of_bag)(sort[1], word, act[1], limit)


def forth_of_row(inner, word, told, limit):
    pieces = limit[1]
    if word == "send":
        return [("row", pieces + (("once", limit_of(inner, told)),))]
    found = []
    for k, (kind, limits) in enumerate(pieces):
        limits = [limits] if kind == "once" else limits
        beside = () if kind == "once" else (pieces[k],)
        if word == "any":
            came = [one for each in limits for one in told_forth(inner, told, each)]
            found += [("row", pieces[:k] + beside + (("once", one),) + beside + pieces[k + 1:]) for one in came]
        elif not found and any(inside(inner, each, told) for each in limits):
            found = [("row", beside + pieces[k + 1:])]
    return found


def forth_of_bag(inner, word, told, limit):
    _, onces, often = limit
    if word == "put":
        return [("bag", onces + (limit_of(inner, told),), often)]
    rests = [(once, onces[:k] + onces[k + 1:]) for k, once in enumerate(onces)]
    if word == "take":
        if any(inside(inner, each, told) for each in often):
            return [limit]
        return [("bag", rest, often) for once, rest in rests if inside(inner, once, told)]
    found = [("bag", rest + (came,), often) for once, rest in rests for came in told_forth(inner, told, once)]
    return found + [("bag", onces + (came,), often) for each in often for came in told_forth(inner, told, each)]
