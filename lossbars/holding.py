"""Which values hold which, and at which places, for values that are known to be right."""

from lossbars.forms import side_sort


def matched(many, spots, fits):
    """Whether each of many things can have a spot of its own that it fits: fits(thing, spot)."""
    owner = {}
    for thing in range(many):
        if not _seated(thing, spots, fits, owner, {}):
            return False
    return True


def _seated(thing, spots, fits, owner, tried):
    """Finds a spot for a thing, moving others on where this helps."""
    for spot in range(spots):
        if spot not in tried and fits(thing, spot):
            tried[spot] = True
            if spot not in owner or _seated(owner[spot], spots, fits, owner, tried):
                owner[spot] = thing
                return True
    return False


def above(sort, v, u):
    """Whether v holds u."""
    if sort[0] == "mark":
        return v == u
    if sort[0] == "count":
        return v >= u
    if sort[0] == "both":
        return above(sort[1], v[0], u[0]) and above(sort[2], v[1], u[1])
    if sort[0] == "either":
        return v[0] == u[0] and above(side_sort(sort, v[0]), v[1], u[1])
    if len(u) > len(v):
        return False
    if v == u:
        return True
    if sort[0] == "lane":
        v, u = _without_same_ends(v, u)
        return lane_places(sort[1], v, u) is not None
    return _heap_above(sort[1], v, u)


def _without_same_ends(v, u):
    """Two lanes without equal last elements: if one holds the other, such ones can stand at each other's place."""
    end = 0
    while end < len(u) and v[len(v) - 1 - end] == u[len(u) - 1 - end]:
        end += 1
    return v[:len(v) - end], u[:len(u) - end]


def _heap_above(inner, v, u):
    """Whether heap v holds heap u."""
    spots, parts = list(v), []
    for part in u:
        # If there is a way at all, there is one by which equal ones go together.
        if part in spots:
            spots.remove(part)
        else:
            parts.append(part)
    # The greatest ones first: they have the fewest spots, so what cannot be is soon seen.
    return matched(len(parts), len(spots), _fitting(inner, spots[::-1], parts[::-1]))


def above_one(sort, v, some):
    """Whether v holds one of some."""
    for u in some:
        if above(sort, v, u):
            return True
    return False


def lane_places(inner, v, u):
    """The first places in lane v for the elements of lane u; None if there are none."""
    found = []
    place = 0
    for part in u:
        while place < len(v) and not above(inner, v[place], part):
            place += 1
        if place == len(v):
            return None
        found.append(place)
        place += 1
    return tuple(found)


def heap_places(inner, v, u):
    """The first places in heap v for the elements of heap u, no place twice; None if there are none."""
    fits = _fitting(inner, v, u)
    if not matched(len(u), len(v), fits):
        return None
    found = []
    for part in range(len(u)):
        found.append(_next_place(found, part, len(u), len(v), fits))
    return tuple(found)


def _next_place(found, part, many, spots, fits):
    """The first place for a part that leaves places for all parts behind it."""
    for place in range(spots):
        if place in found or not fits(part, place):
            continue
        taken = found + [place]
        if matched(many - part - 1, spots, lambda k, spot: spot not in taken and fits(part + 1 + k, spot)):
            return place
    return None


def _fitting(inner, v, u):
    """The function that tells whether a spot of v holds a part of u, each pair looked at once."""
    known = {}

    def fits(part, spot):
        if (part, spot) not in known:
            known[(part, spot)] = above(inner, v[spot], u[part])
        return known[(part, spot)]

    return fits
