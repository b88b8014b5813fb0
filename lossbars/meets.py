"""What two limits have in common."""

from lossbars.crossings import Crossing
from lossbars.forms import side_sort
from lossbars.insides import is_once, limits_in_order, limits_of, within, within_one
from lossbars.shapes import check_limit
from lossbars.sorts import check_sort
from lossbars.tables import PieceTable, topmost


def met_limits(sort, one, two):
    """The list of limits that tells what is inside both."""
    check_sort(sort)
    check_limit(sort, one)
    check_limit(sort, two)
    return met(sort, one, two)


def met(sort, one, two):
    """As met_limits, for limits that are known to be right."""
    if within(sort, one, two):
        return [one]
    if within(sort, two, one):
        return [two]
    if sort[0] == "both":
        firsts, seconds = met(sort[1], one[1], two[1]), met(sort[2], one[2], two[2])
        return [("pair", first, second) for first in firsts for second in seconds]
    if sort[0] == "either" and one[0] == two[0]:
        return [(one[0], limit) for limit in met(side_sort(sort, one[0]), one[1], two[1])]
    if sort[0] == "lane":
        return rows_met(sort, one, two)
    if sort[0] == "heap":
        return _bags_met(sort, one, two)
    return []


def met_lists(sort, ones, twos):
    """The list of limits of what lies inside one of each of two lists."""
    firsts = [one for one in ones if within_one(sort, one, twos)]
    seconds = [two for two in twos if within_one(sort, two, ones)]
    # What lies within the other list already is there as it is; only the other ones have to be met.
    found = firsts + seconds
    for one in ones:
        if one not in firsts:
            found.extend([limit for two in twos if two not in seconds for limit in met(sort, one, two)])
    return topmost(sort, found)


def rows_met(sort, one, two, most=None):
    """As met, for rows; where more than most limits come, perhaps TooMany."""
    table = PieceTable(sort)
    pieces, others = table.coded(one), table.coded(two)
    heads = {(i, k): _heads(sort[1], table, i, k) for i in sorted(set(pieces)) for k in sorted(set(others))}
    return limits_in_order(sort, [table.told(code) for code in Crossing(table, pieces, others, heads).codes(most)])


def _heads(inner, table, number, other):
    """The numbers of the pieces that two pieces have in common."""
    one, two = table.piece(number), table.piece(other)
    shared = met_lists(inner, limits_of(one), limits_of(two))
    if is_once(one) or is_once(two):
        return [table.number_of(("once", limit)) for limit in shared]
    return [table.number_of(("often", tuple(shared)))] if shared else []


def _bags_met(sort, one, two):
    """Onces of the one go alone or with one that is left of the other's, then what is left goes alone.

    What is made so far is a rising tuple of numbers of onces; what is left are places of onces of the other."""
    inner, table = sort[1], PieceTable(sort)
    often = table.number_of(("often", tuple(met_lists(inner, one[2], two[2]))))
    found = [((), tuple(range(len(two[1]))))]
    for limit in one[1]:
        alone = _alone(inner, table, limit, two[2], often)
        pairs = [_onces(table, met(inner, limit, other), often) for other in two[1]]
        longer = {}
        for made, left in found:
            for came, rest in _choices(two[1], alone, pairs, left):
                longer[(tuple(sorted(made + came)), rest)] = True
        found = list(longer)
    rests = [_alone(inner, table, other, one[2], often) for other in two[1]]
    codes = [(row, often) for made, left in found for row in _finished(made, left, rests)]
    return limits_in_order(sort, [table.told(code) for code in table.top_codes(codes)])


def _alone(inner, table, limit, others, often):
    """What a once may bring by the other's often, or nothing if there is no such."""
    found = _onces(table, met_lists(inner, [limit], others), often)
    return found if found else [()]


def _onces(table, limits, often):
    """The onces, coded, of those limits that tell more than often does."""
    numbers = [table.number_of(("once", limit)) for limit in limits]
    return [(number,) for number in numbers if not table.lies(number, often)]


def _choices(others, alone, pairs, left):
    """What a once may bring, each with what is then left of others; of equal ones that are left the first is taken."""
    found = [(came, left) for came in alone]
    for place, k in enumerate(left):
        if others[k] not in [others[j] for j in left[:place]]:
            found.extend([(came, left[:place] + left[place + 1:]) for came in pairs[k]])
    return found


def _finished(made, left, rests):
    """What is made when each once that is left brings what it may."""
    found = [made]
    for k in left:
        found = [tuple(sorted(row + came)) for row in found for came in rests[k]]
    return found
