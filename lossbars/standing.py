"""Positions and position limits of a machine: their form, their order, what holds what and what lies inside what."""

from lossbars.errors import BadPosition, TooMany
from lossbars.forms import amount, form_fault, in_order
from lossbars.holding import above
from lossbars.insides import inside, limits_in_order
from lossbars.joints import least_ones
from lossbars.shapes import limit_fault, one_form
from lossbars.tables import topmost


def is_right_position(machine, value):
    """Whether any value is a position of the machine."""
    return _has_state(machine, value) and form_fault(machine.kind, value[1]) is None


def is_position_limit(machine, value):
    """Whether any value is a position limit of the machine, its limit in its one form."""
    if not _has_state(machine, value) or limit_fault(machine.kind, value[1]) is not None:
        return False
    return one_form(machine.kind, value[1]) == value[1]


def _has_state(machine, value):
    return isinstance(value, tuple) and len(value) == 2 and value[0] in machine.states()


def check_position(machine, value, number):
    """BadPosition, with this number, for what is no position."""
    if not is_right_position(machine, value):
        raise BadPosition(number)


def check_positions(machine, some):
    """BadPosition for the first of some that is no position."""
    for number, value in enumerate(some):
        check_position(machine, value, number)


def check_position_limit(machine, value, number):
    """BadPosition, with this number, for what is no position limit."""
    if not is_position_limit(machine, value):
        raise BadPosition(number)


def check_position_limits(machine, limits):
    """BadPosition for the first of some that is no position limit."""
    for number, value in enumerate(limits):
        check_position_limit(machine, value, number)


def position_above(machine, one, other):
    """Whether a position holds another one."""
    return one[0] == other[0] and above(machine.kind, one[1], other[1])


def position_above_one(machine, position, some):
    """Whether a position holds one of some."""
    for other in some:
        if position_above(machine, position, other):
            return True
    return False


def least_of(machine, some, most=None):
    """The ascending list of those of some positions that hold no different one, each once.

    TooMany where there are more than most of one state."""
    found = []
    for state in machine.states():
        found.extend([(state, value) for value in least_ones(machine.kind, of_state(some, state), most)])
    return found


def of_state(some, state):
    """The values of those positions, or the limits of those position limits, that have a state."""
    return [told for name, told in some if name == state]


def is_least_tuple(machine, value):
    """Whether any value is a tuple of positions, ascending, none of which holds another one."""
    if not isinstance(value, tuple):
        return False
    for part in value:
        if not is_right_position(machine, part):
            return False
    return list(value) == least_of(machine, value)


def widened(machine, listed, more, most=None):
    """The least list of a least list and of more positions, and those of it that are new; TooMany above most."""
    each = list({position: True for position in more})
    new = least_of(machine, _holding_none(machine, each, listed), most)
    found = positions_in_order(machine, _holding_none(machine, listed, new) + new)
    _check_many(found, most)
    return found, new


def _holding_none(machine, some, others):
    """Those of some positions that hold none of others."""
    known = {other: True for other in others}
    sized = [(amount(machine.kind, other[1]), other) for other in others]
    found = []
    for one in some:
        much = amount(machine.kind, one[1])
        # What is held is less or equal; where there are many, this spares looking at most of them.
        lesser = [other for size, other in sized if size < much]
        if one not in known and not position_above_one(machine, one, lesser):
            found.append(one)
    return found


def positions_in_order(machine, some):
    """The list of some positions, ascending."""
    found = []
    for state in machine.states():
        found.extend([(state, value) for value in in_order(machine.kind, of_state(some, state))])
    return found


def position_limits_in_order(machine, limits):
    """The list of some position limits, by their states' places, then ascending."""
    found = []
    for state in machine.states():
        found.extend([(state, limit) for limit in limits_in_order(machine.kind, of_state(limits, state))])
    return found


def _check_many(some, most):
    if most is not None and len(some) > most:
        raise TooMany()


def joined_of(machine, limits, most=None):
    """The list of position limits that tell the same as some, in one form; TooMany above most."""
    found = []
    for state in machine.states():
        found.extend([(state, limit) for limit in topmost(machine.kind, of_state(limits, state))])
    _check_many(found, most)
    return found


def lies_in(machine, limit, position):
    """Whether a position lies inside a position limit."""
    return limit[0] == position[0] and inside(machine.kind, limit[1], position[1])


def numbers_inside(machine, limits, position):
    """The ascending list of the numbers of those position limits in which a position lies."""
    return [number for number, limit in enumerate(limits) if lies_in(machine, limit, position)]


def first_met(machine, limits, some):
    """The first (number, position) of a position limit and one of some that lies inside it; None if there is none."""
    for number, limit in enumerate(limits):
        for position in some:
            if lies_in(machine, limit, position):
                return (number, position)
    return None
