"""Machines, their positions and their position limits."""

from lossbars.acts import check_act
from lossbars.errors import BadName, TwiceTold, UnknownName
from lossbars.shapes import told_limit
from lossbars.sorts import check_sort, is_word
from lossbars.standing import (
    check_position,
    check_position_limits,
    check_positions,
    is_right_position,
    joined_of,
    least_of,
    numbers_inside,
    position_above,
    position_above_one,
)


class Machine:
    """States, and rules that lead from one to another and do an act to a value of the sort."""

    def __init__(self, sort, states, rules):
        check_sort(sort)
        self._kind = sort
        self._states = _checked_states(states)
        self._rules = _checked_rules(sort, self._states, rules)
        self._table = {name: (begin, act, end) for name, begin, act, end in self._rules}

    @property
    def kind(self):
        """The sort."""
        return self._kind

    def states(self):
        """The list of the states."""
        return list(self._states)

    def rules(self):
        """The list of all (name, begin, act, end)."""
        return list(self._rules)

    def rule(self, name):
        """The tuple (begin, act, end) of a rule."""
        if name not in self:
            raise UnknownName(name)
        return self._table[name]

    def __contains__(self, name):
        return isinstance(name, str) and name in self._table

    def __len__(self):
        return len(self._rules)

    def __eq__(self, other):
        return (
            isinstance(other, Machine)
            and self._kind == other._kind
            and self._states == other._states
            and self._rules == other._rules
        )


def without(machine, names):
    """The machine without the rules of these names."""
    for name in names:
        if name not in machine:
            raise UnknownName(name)
    return Machine(machine.kind, machine.states(), [rule for rule in machine.rules() if rule[0] not in names])


def is_position(machine, value):
    """Whether any value is a position of the machine."""
    return is_right_position(machine, value)


def holds_position(machine, one, other):
    """Whether a position holds another one."""
    check_positions(machine, [one, other])
    return position_above(machine, one, other)


def least_positions(machine, some):
    """The ascending list of those of some positions that hold no different one of them, each once."""
    check_positions(machine, some)
    return least_of(machine, some)


def holds_one(machine, some, position):
    """Whether a position holds one of some."""
    check_positions(machine, some)
    check_position(machine, position, len(some))
    return position_above_one(machine, position, some)


def starts_at(machine, some):
    """The list of the position limits of what each of some positions holds."""
    check_positions(machine, some)
    return [(state, told_limit(machine.kind, value)) for state, value in some]


def inside_of(machine, limits, position):
    """The ascending list of the numbers of those position limits in which a position lies."""
    check_position_limits(machine, limits)
    check_position(machine, position, len(limits))
    return numbers_inside(machine, limits, position)


def joined(machine, limits):
    """The list of position limits in which lies what lies in one of some, in its one form."""
    check_position_limits(machine, limits)
    return joined_of(machine, limits)


def _checked_states(states):
    found = []
    for name in states:
        _check_new_name(name, found)
        found.append(name)
    return found


def _check_new_name(name, told):
    if not is_word(name):
        raise BadName(name)
    if name in told:
        raise TwiceTold(name)


def _checked_rules(sort, states, rules):
    found, told = [], {}
    for name, begin, act, end in rules:
        _check_new_name(name, told)
        for state in (begin, end):
            if state not in states:
                raise UnknownName(state)
        check_act(sort, act)
        told[name] = True
        found.append((name, begin, act, end))
    return found
