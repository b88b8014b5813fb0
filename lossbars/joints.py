"""Least ones, what holds two values at once, and in how many ways, for values that are known to be right.

Nothing here keeps to the bounds of values: what comes of a call may be longer than a value of the sort can be."""

from math import comb, factorial

from lossbars.errors import TooMany
from lossbars.forms import amount, as_heap, in_order, side_sort, value_fault
from lossbars.holding import above, above_one

MOST_WAYS = 500


def least_ones(sort, some, most=None):
    """The least list of some values; TooMany if it has more than most of them."""
    if sort[0] == "count":
        kept = [min(some)] if some else []
    else:
        kept = _kept(sort, some, most)
    if most is not None and len(kept) > most:
        raise TooMany()
    return in_order(sort, kept)


def _kept(sort, some, most):
    """Those of some values that hold no different one, each once."""
    sized = [(amount(sort, value), value) for value in list({value: True for value in some})]
    kept, lesser, last = [], [], None
    for much, value in sorted(sized, key=lambda pair: pair[0]):
        # What is held and different is always less, so nothing that comes later can be held by what is kept.
        if much != last:
            lesser, last = list(kept), much
        if not above_one(sort, value, lesser):
            kept.append(value)
        if most is not None and len(kept) > most:
            return kept
    return kept


def joint(sort, v, u):
    """The least list of the values that hold v and u."""
    if above(sort, v, u):
        return [v]
    if above(sort, u, v):
        return [u]
    if sort[0] == "both":
        firsts, seconds = joint(sort[1], v[0], u[0]), joint(sort[2], v[1], u[1])
        return [(first, second) for first in firsts for second in seconds]
    if sort[0] == "either" and v[0] == u[0]:
        return [(v[0], part) for part in joint(side_sort(sort, v[0]), v[1], u[1])]
    if sort[0] == "lane":
        return _lane_joint(sort, v, u)
    if sort[0] == "heap":
        return _heap_joint(sort, v, u)
    return []


def _lane_joint(sort, v, u):
    """Cell k of the row for i is the least list of what holds both v[i:] and u[k:]; the rows come from the end."""
    below = [[u[k:]] for k in range(len(u) + 1)]
    for i in reversed(range(len(v))):
        row = [[v[i:]]]
        for k in reversed(range(len(u))):
            found = [(v[i],) + rest for rest in below[k]] + [(u[k],) + rest for rest in row[0]]
            for part in joint(sort[1], v[i], u[k]):
                found.extend([(part,) + rest for rest in below[k + 1]])
            row = [least_ones(sort, found)] + row
        below = row
    return below[0]


def _heap_joint(sort, v, u):
    """Each element of v stays alone or goes together with one that is left of u."""
    found = [((), tuple(range(len(u))))]
    for part in v:
        pairs = [joint(sort[1], part, other) for other in u]
        found = [
            (made + (one,), rest)
            for made, left in found
            for one, rest in _choices(part, pairs, left)
        ]
    return least_ones(sort, [as_heap(sort[1], made + tuple([u[k] for k in left])) for made, left in found])


def _choices(part, pairs, left):
    """What may stand for an element of v, each with what is then left of u."""
    found = [(part, left)]
    for k in left:
        rest = tuple([other for other in left if other != k])
        found.extend([(one, rest) for one in pairs[k]])
    return found


def joint_list(sort, some, others):
    """The least list of what is in both up-sets."""
    ones = [v for v in some if above_one(sort, v, others)]
    twos = [u for u in others if above_one(sort, u, some)]
    # What lies in both already is least there; only the other ones have to be raised.
    found = ones + twos
    for v in some:
        for u in others:
            if v not in ones and u not in twos:
                found.extend(joint(sort, v, u))
    return least_ones(sort, found)


def bounded_joint(sort, v, u):
    """As joint; TooMany above 500 ways, or if something in it is no value."""
    if _many_ways(sort, v, u) or way_count(sort, v, u) > MOST_WAYS:
        raise TooMany()
    found = joint(sort, v, u)
    for value in found:
        if value_fault(sort, value) is not None:
            raise TooMany()
    return found


def way_count(sort, v, u):
    """The number of ways of two values."""
    if sort[0] in ("lane", "heap"):
        return _store_ways(sort, v, u)
    found = 1
    for inner, part, other in _part_pairs(sort, v, u):
        found = found * way_count(inner, part, other)
    return found


def _part_pairs(sort, v, u):
    """The parts of two pairs, or of two on one side, that stand at one place."""
    if sort[0] == "both":
        return [(sort[1], v[0], u[0]), (sort[2], v[1], u[1])]
    if sort[0] == "either" and v[0] == u[0]:
        return [(side_sort(sort, v[0]), v[1], u[1])]
    return []


def _is_flat(sort):
    """Whether there is one way for each two values of a sort."""
    if sort[0] in ("both", "either"):
        return _is_flat(sort[1]) and _is_flat(sort[2])
    return sort[0] in ("mark", "count")


def _store_ways(sort, v, u):
    if not v or not u or _is_flat(sort[1]):
        return _even_ways(sort, len(v), len(u), 1)
    weights = [[way_count(sort[1], part, other) for other in u] for part in v]
    first = weights[0][0]
    if all([weight == first for row in weights for weight in row]):
        return _even_ways(sort, len(v), len(u), first)
    return _lane_ways(weights) if sort[0] == "lane" else _heap_ways(weights)


def _even_ways(sort, many, more, weight):
    """The ways of two lanes or heaps of so many elements, each two of which have weight ways."""
    found, power = 0, 1
    for pairs in range(min(many, more) + 1):
        if sort[0] == "lane":
            found = found + comb(many + more - pairs, many) * comb(many, pairs) * power
        else:
            found = found + comb(many, pairs) * comb(more, pairs) * factorial(pairs) * power
        power = power * weight
    return found


def _lane_ways(weights):
    below = [1] * (len(weights[0]) + 1)
    for weighed in reversed(weights):
        row = [1]
        for k in reversed(range(len(weighed))):
            row = [below[k] + row[0] + below[k + 1] * weighed[k]] + row
        below = row
    return below[0]


def _heap_ways(weights):
    """Place m of found counts the pairings so far that use the elements that the bits of m tell."""
    found = [1] + [0] * ((1 << len(weights[0])) - 1)
    for weighed in weights:
        found = [
            many + sum([found[m - (1 << k)] * weight for k, weight in enumerate(weighed) if m >> k & 1])
            for m, many in enumerate(found)
        ]
    return sum(found)


def _many_ways(sort, v, u):
    """Whether some part alone has too many ways, as its lengths tell: then the whole has, and need not be counted."""
    if sort[0] in ("lane", "heap"):
        if _even_ways(sort, len(v), len(u), 1) > MOST_WAYS:
            return True
        if _is_flat(sort[1]):
            return False
        pairs = [(sort[1], part, other) for part in v for other in u]
    else:
        pairs = _part_pairs(sort, v, u)
    for inner, part, other in pairs:
        if _many_ways(inner, part, other):
            return True
    return False
