"""Deeds, and the moments that they and merges make; a moment is a tuple of its rules, its starts, its bad positions."""

from lossbars.errors import BadDeed, BadPosition, Clash, TooMany, UnknownName
from lossbars.machines import Machine
from lossbars.standing import is_position_limit, is_right_position, position_limits_in_order, positions_in_order

# How many entries a deed has, by its word.
ENTRIES = {"rule": 5, "drop": 2, "start": 2, "unstart": 2, "bad": 2, "unbad": 2}
MOST_RULES = 6
MOST_STARTS = 3
MOST_BAD = 3


def check_deed(deed):
    """BadDeed for any value that has not the form of a deed."""
    if not isinstance(deed, tuple) or not deed or not isinstance(deed[0], str):
        raise BadDeed()
    if deed[0] not in ENTRIES or len(deed) != ENTRIES[deed[0]]:
        raise BadDeed()


def check_moment(moment):
    """TooMany for a moment that tells too much."""
    rules, starts, bad = moment
    if len(rules) > MOST_RULES or len(starts) > MOST_STARTS or len(bad) > MOST_BAD:
        raise TooMany()


def moment_behind(house, moment, deed):
    """The moment that a deed makes of another one."""
    rules, starts, bad = moment
    if deed[0] in ("rule", "drop"):
        return (_rules_behind(house, rules, deed), starts, bad)
    if deed[0] in ("start", "unstart"):
        if not is_position_limit(house, deed[1]):
            raise BadPosition(0)
        told = _told_behind(starts, deed[1], deed[0] == "start")
        return (rules, tuple(position_limits_in_order(house, told)), bad)
    if not is_right_position(house, deed[1]):
        raise BadPosition(0)
    told = _told_behind(bad, deed[1], deed[0] == "bad")
    return (rules, starts, tuple(positions_in_order(house, told)))


def merged_moment(house, was, one, other):
    """What two moments tell that come of one that was; Clash where both changed a rule to different ones."""
    tables = [{rule[0]: rule for rule in moment[0]} for moment in (was, one, other)]
    names = sorted({name for table in tables for name in table})
    clashing = [name for name in names if _clashes([table.get(name) for table in tables])]
    if clashing:
        raise Clash(tuple([("rule", name) for name in clashing]))
    rules = [_settled([table.get(name) for table in tables]) for name in names]
    starts = position_limits_in_order(house, _told_behind_both(was[1], one[1], other[1]))
    bad = positions_in_order(house, _told_behind_both(was[2], one[2], other[2]))
    return (tuple([rule for rule in rules if rule is not None]), tuple(starts), tuple(bad))


def _rules_behind(house, rules, deed):
    name = deed[1]
    others = [rule for rule in rules if rule[0] != name]
    if deed[0] == "drop":
        if len(others) == len(rules):
            raise UnknownName(name)
        return tuple(others)
    # A machine of this rule alone raises what is wrong with it.
    Machine(house.kind, house.states(), [deed[1:]])
    return tuple(sorted(others + [deed[1:]], key=lambda rule: rule[0]))


def _told_behind(told, one, is_told):
    """What is told behind a deed that tells one thing, or tells it no more."""
    if not is_told and one not in told:
        raise UnknownName(one)
    others = [other for other in told if other != one]
    return others + [one] if is_told else others


def _clashes(rules):
    was, one, other = rules
    return one != was and other != was and one != other


def _settled(rules):
    """The rule that both sides, which do not clash, lead to."""
    was, one, other = rules
    return other if one == was else one


def _told_behind_both(was, one, other):
    """What both sides tell, and what one alone tells that was not told."""
    both = [each for each in one if each in other]
    new = [each for each in one if each not in other and each not in was]
    return both + new + [each for each in other if each not in one and each not in was]
