"""The least values outside one limit, of any size."""

from math import comb

from lossbars.errors import TooMany
from lossbars.forms import as_heap, in_order, lowest, side_sort
from lossbars.holding import matched
from lossbars.insides import inside, inside_one, is_once, limits_of
from lossbars.joints import joint_list, least_ones


def least_missed(sort, limit, most=None):
    """The least list of the values outside a limit; TooMany if it has more than most of them."""
    found = in_order(sort, _missed(sort, limit, most))
    if most is not None and len(found) > most:
        raise TooMany()
    return found


def _missed(sort, limit, most):
    if sort[0] == "mark":
        return [letter for letter in sort[1] if letter != limit[1]]
    if sort[0] == "count":
        return [] if limit[0] == "all" else [limit[1] + 1]
    if sort[0] == "both":
        # Each least value outside a part's limit stands in a least pair, so if those are too many, these are.
        firsts = [(v, w) for v in least_missed(sort[1], limit[1], most) for w in lowest(sort[2])]
        seconds = [(v, w) for v in lowest(sort[1]) for w in least_missed(sort[2], limit[2], most)]
        return least_ones(sort, firsts + seconds)
    if sort[0] == "either":
        found = [(limit[0], v) for v in least_missed(side_sort(sort, limit[0]), limit[1], most)]
        return found + [v for v in lowest(sort) if v[0] != limit[0]]
    if sort[0] == "lane":
        return _lanes_missed(sort, limit[1], most)
    return _heaps_missed(sort[1], limit[1], limit[2], most)


def _missed_by_all(sort, limits):
    """The least list of the values outside each of some limits."""
    found = lowest(sort)
    for limit in limits:
        found = joint_list(sort, found, least_missed(sort, limit))
    return found


def lowered(sort, v):
    """Values that v holds, heaps in any order: each other one that v holds is held by one of them."""
    if sort[0] == "mark":
        return []
    if sort[0] == "count":
        return [v - 1] if v > 0 else []
    if sort[0] == "both":
        return [(one, v[1]) for one in lowered(sort[1], v[0])] + [(v[0], two) for two in lowered(sort[2], v[1])]
    if sort[0] == "either":
        return [(v[0], part) for part in lowered(side_sort(sort, v[0]), v[1])]
    found = []
    for place, part in enumerate(v):
        lesser = lowered(sort[1], part)
        stands = [(other,) for other in lesser] if lesser else [()]
        found.extend([v[:place] + came + v[place + 1:] for came in stands])
    return found


def _lanes_missed(sort, pieces, most):
    """Lanes whose each element leads on through the pieces, the last one beyond them, and none could do so lowered."""
    steps = _steps(sort[1], pieces)
    found = []
    begun = [((), 0)]
    while begun:
        lane, start = begun.pop()
        for part in steps[start]:
            longer = lane + (part,)
            stand = _stand(sort[1], pieces, longer)
            if not _is_tight(sort, pieces, longer, stand):
                continue
            if stand > len(pieces):
                found.append(longer)
            else:
                begun.append((longer, stand))
        if most is not None and len(found) > most:
            return found
    return found


def _steps(inner, pieces):
    """Row i: the least values outside none, one, two and so on of the pieces from i on; no other one may lead on."""
    missed = [_missed_by_all(inner, limits_of(piece)) for piece in pieces]
    found = []
    for start in range(len(pieces) + 1):
        parts = lowest(inner)
        kept = {part: True for part in parts}
        for others in missed[start:]:
            parts = joint_list(inner, parts, others)
            for part in parts:
                kept[part] = True
        found.append(list(kept))
    return found


def _takes(inner, piece, part):
    return inside_one(inner, limits_of(piece), part)


def _stand(inner, pieces, lane):
    """The piece at which the next element of a lane is looked at; one more than there are if it lies outside."""
    at = 0
    for part in lane:
        while at < len(pieces) and not _takes(inner, pieces[at], part):
            at += 1
        if at == len(pieces):
            return at + 1
        if is_once(pieces[at]):
            at += 1
    return at


def _is_tight(sort, pieces, lane, stand):
    """Whether nothing less than a lane leads as far: what does so leads to lesser lanes outside."""
    for lesser in lowered(sort, lane):
        if _stand(sort[1], pieces, lesser) >= stand:
            return False
    return True


def _heaps_missed(inner, onces, often, most):
    """A least heap outside has one element more than there are onces that take any of them.

    For each choice of onces (the bits of a number tell it) the elements are least ones outside often and all other
    onces, and all of them but any one find places. Which of them do is told by the onces that take each one, its
    seats, alone; so the elements are grouped by them."""
    free = _free_lists(inner, onces, often)
    found = []
    for chosen in range(len(free)):
        groups = _by_seats(inner, onces, chosen, free[len(free) - 1 - chosen])
        for circuit in _circuits(sorted(groups), sum([chosen >> k & 1 for k in range(len(onces))]), len(onces)):
            if most is not None and len(found) + _filling_count(circuit, groups) > most:
                raise TooMany()
            found.extend([as_heap(inner, parts) for parts in _fillings(circuit, groups)])
    return found


def _free_lists(inner, onces, often):
    """Item m: the least values outside all of often and the onces that the bits of m tell."""
    found = [_missed_by_all(inner, often)]
    for once in onces:
        others = least_missed(inner, once)
        found = found + [joint_list(inner, parts, others) for parts in found]
    return found


def _by_seats(inner, onces, chosen, parts):
    found = {}
    for part in parts:
        seats = sum([1 << k for k, once in enumerate(onces) if chosen >> k & 1 and inside(inner, once, part)])
        found.setdefault(seats, []).append(part)
    return found


def _circuits(seats, many, spots):
    """The rows of many seats and one more, ascending, that find places without any one of them."""
    found = [()]
    for _ in range(many):
        found = [row for row in _longer(found, seats) if _find_places(row, spots)]
    return [row for row in _longer(found, seats) if _nearly_find_places(row, spots)]


def _longer(rows, seats):
    return [row + (seat,) for row in rows for seat in seats if not row or seat >= row[-1]]


def _find_places(row, spots):
    return matched(len(row), spots, lambda k, spot: row[k] >> spot & 1)


def _nearly_find_places(row, spots):
    for k in range(len(row)):
        if not _find_places(row[:k] + row[k + 1:], spots):
            return False
    return True


def _filling_count(circuit, groups):
    found = 1
    for seat in sorted(set(circuit)):
        found = found * comb(len(groups[seat]) + circuit.count(seat) - 1, circuit.count(seat))
    return found


def _fillings(circuit, groups):
    """The ways to put elements for the seats of a row, order aside."""
    found = [()]
    for seat in sorted(set(circuit)):
        found = [made + more for made in found for more in _multisets(groups[seat], circuit.count(seat))]
    return found


def _multisets(parts, many):
    rows = [()]
    for _ in range(many):
        rows = [row + (k,) for row in rows for k in range(row[-1] if row else 0, len(parts))]
    return [tuple([parts[k] for k in row]) for row in rows]
