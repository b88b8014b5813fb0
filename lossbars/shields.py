"""Shields: lists of position limits that are closed a step forth, and bars told by them."""

from lossbars.errors import TooMany
from lossbars.forward import act_forth
from lossbars.insides import within
from lossbars.leasts import common
from lossbars.meets import met_lists
from lossbars.outsides import least_outside, outside
from lossbars.shapes import limit_fault
from lossbars.standing import (
    check_position_limits,
    check_positions,
    is_position_limit,
    joined_of,
    least_of,
    lies_in,
    of_state,
    position_above_one,
)


def shield_of(machine, bar, *, limits=24):
    """The list of position limits inside which just those positions lie that hold none of a list of positions."""
    check_positions(machine, bar)
    listed, found = least_of(machine, bar), []
    for state in machine.states():
        told = outside(machine.kind, of_state(listed, state), limits=limits)
        found.extend([(state, limit) for limit in told])
    return found


def bar_of(machine, shield, *, values=24):
    """The tuple of the least positions that lie inside none of a list of position limits."""
    check_position_limits(machine, shield)
    listed, found = joined_of(machine, shield), []
    for state in machine.states():
        told = least_outside(machine.kind, of_state(listed, state), values=values)
        found.extend([(state, value) for value in told])
    return tuple(found)


def judge_shield(machine, starts, bad, value):
    """None if any value is a shield for starts and bad; else its first fault."""
    check_position_limits(machine, starts)
    check_positions(machine, bad)
    if not _are_position_limits(machine, value):
        return ("form",)
    return Cover(machine, starts, bad, value).fault(list(range(len(value))))


def thinned(machine, starts, bad, shield):
    """The list of what is left of a shield when each limit, from the last one on, goes that is not needed."""
    check_position_limits(machine, starts)
    check_positions(machine, bad)
    cover = Cover(machine, starts, bad, shield)
    left = list(range(len(shield)))
    for number in reversed(range(len(shield))):
        rest = [other for other in left if other != number]
        if cover.fault(rest) is None:
            left = rest
    return [shield[number] for number in left]


def bars_together(machine, one, two):
    """The tuple of the least positions of what holds one of the one list or of the other."""
    check_positions(machine, one)
    check_positions(machine, two)
    return tuple(least_of(machine, list(one) + list(two)))


def bars_common(machine, one, two):
    """The tuple of the least positions of what holds one of each of two lists."""
    check_positions(machine, one)
    check_positions(machine, two)
    found = []
    for state in machine.states():
        told = common(machine.kind, of_state(one, state), of_state(two, state))
        found.extend([(state, value) for value in told])
    return tuple(found)


def shields_common(machine, one, two, *, limits=24):
    """The list of position limits inside which lies what lies inside one of each of two lists."""
    check_position_limits(machine, one)
    check_position_limits(machine, two)
    ones, twos, found = joined_of(machine, one), joined_of(machine, two), []
    for state in machine.states():
        told = met_lists(machine.kind, of_state(ones, state), of_state(twos, state))
        if len(told) > limits:
            raise TooMany()
        for limit in told:
            # A limit that was made here has no fault but that it passes the bounds.
            if limit_fault(machine.kind, limit) is not None:
                raise TooMany()
        found.extend([(state, limit) for limit in told])
    return found


def stronger(machine, one, two):
    """Whether all that holds one of the list one holds one of the list two."""
    check_positions(machine, one)
    check_positions(machine, two)
    for position in one:
        if not position_above_one(machine, position, two):
            return False
    return True


class Cover:
    """What lies within which of a list of position limits, each asked once, however often some of it are looked at."""

    def __init__(self, machine, starts, bad, limits):
        self._machine = machine
        self._starts = list(starts)
        self._bad = list(bad)
        self._limits = list(limits)
        self._forths = {}
        self._known = {}

    def fault(self, left):
        """The first fault of the limits of these numbers, as a shield; None if they are one."""
        for k, start in enumerate(self._starts):
            if not self._covers(left, ("start", k), start):
                return ("start", k)
        for k, position in enumerate(self._bad):
            for number in left:
                if lies_in(self._machine, self._limits[number], position):
                    return ("bad", k)
        for place, rule in enumerate(self._machine.rules()):
            k = self._first_open(left, place, rule)
            if k is not None:
                return ("forth", rule[0], k)
        return None

    def _first_open(self, left, place, rule):
        """The place among some limits of the first of which, by a rule, something comes that lies within none."""
        _, begin, act, end = rule
        for k, number in enumerate(left):
            if self._limits[number][0] != begin:
                continue
            for j, came in enumerate(self._forth(place, number, act)):
                if not self._covers(left, (place, number, j), (end, came)):
                    return k
        return None

    def _forth(self, place, number, act):
        if (place, number) not in self._forths:
            self._forths[(place, number)] = act_forth(self._machine.kind, act, self._limits[number][1])
        return self._forths[(place, number)]

    def _covers(self, left, key, limit):
        """Whether a position limit, known by its key, lies within one of some."""
        for number in left:
            if self._limits[number][0] == limit[0]:
                if (key, number) not in self._known:
                    self._known[(key, number)] = within(self._machine.kind, limit[1], self._limits[number][1])
                if self._known[(key, number)]:
                    return True
        return False


def _are_position_limits(machine, value):
    if not isinstance(value, (list, tuple)):
        return False
    for part in value:
        if not is_position_limit(machine, part):
            return False
    return True
