"""Trees, which tell that all paths from a position end, and rings, which tell that one does not."""

from lossbars.forms import form_fault, is_number
from lossbars.holding import above
from lossbars.runs import judge_path, stand_of, steps
from lossbars.standing import check_position, check_positions, position_above, position_above_one


def judge_tree(machine, position, value):
    """None if any value is a right tree for a position; else its first fault."""
    check_position(machine, position, 0)
    return _tree_fault(machine, position, None, value)


def judge_ring(machine, position, value):
    """None if any value is a ring for a position; else its first fault."""
    check_position(machine, position, 0)
    return _ring_fault(machine, position, value)


def judge_tree_within(machine, position, some, value):
    """None if any value is a right tree for the paths from a position that keep some; else its first fault."""
    check_positions(machine, some)
    check_position(machine, position, len(some))
    if value == () and not position_above_one(machine, position, some):
        return None
    return _tree_fault(machine, position, some, value)


def judge_ring_within(machine, position, some, value):
    """None if any value is a ring for a position that keeps some; else its first fault."""
    check_positions(machine, some)
    check_position(machine, position, len(some))
    fault = _ring_fault(machine, position, value)
    if fault is not None:
        return fault
    rows = value[0] + value[1]
    for k in range(len(rows) + 1):
        if not position_above_one(machine, stand_of(machine, position, rows[:k]), some):
            return ("kept", k)
    return None


def branch(value, number):
    """The tuple of the rows that lead from knot 0 of a tree to the knot of this number."""
    rows = []
    while number > 0:
        number, name, came = value[number]
        rows.append((name, came))
    return tuple(rows[::-1])


def depth(value):
    """The greatest number of rows of the branches of a tree, 0 if it has no knots."""
    rows = []
    for parent, _, _ in value:
        rows.append(0 if parent is None else rows[parent] + 1)
    return max(rows, default=0)


def _tree_fault(machine, position, some, value):
    """The first fault of a tree for all paths, or for those that keep some; some is None for all."""
    if not isinstance(value, tuple) or not value:
        return ("form",)
    states = []
    for k, knot in enumerate(value):
        state = _first_state(machine, position, knot) if k == 0 else _state_behind(machine, states, knot)
        if state is None:
            return ("knot", k)
        states.append(state)
    for k, children in enumerate(_children_of(value)):
        for name, came in steps(machine, (states[k], value[k][2])):
            if some is None or position_above_one(machine, (machine.rule(name)[2], came), some):
                if not _is_held(machine, name, came, children):
                    return ("step", k, name, came)
    return None


def _first_state(machine, position, knot):
    """The state of what may be knot 0; None if it is none."""
    if not isinstance(knot, tuple) or len(knot) != 3 or knot[0] is not None or knot[1] is not None:
        return None
    if form_fault(machine.kind, knot[2]) is not None or not above(machine.kind, knot[2], position[1]):
        return None
    return position[0]


def _state_behind(machine, states, knot):
    """The state of what may be a knot behind some whose states are told; None if it is none."""
    if not isinstance(knot, tuple) or len(knot) != 3:
        return None
    parent, name, value = knot
    if not is_number(parent, 0, len(states) - 1) or name not in machine:
        return None
    begin, _, end = machine.rule(name)
    if begin != states[parent] or form_fault(machine.kind, value) is not None:
        return None
    return end


def _children_of(value):
    """For each knot of a tree the list of all (name, value) of its children."""
    found = [[] for _ in value]
    for parent, name, came in value[1:]:
        found[parent].append((name, came))
    return found


def _is_held(machine, name, came, children):
    for other, value in children:
        if other == name and above(machine.kind, value, came):
            return True
    return False


def _ring_fault(machine, position, value):
    if not isinstance(value, tuple) or len(value) != 2:
        return ("form",)
    out, again = value
    fault = judge_path(machine, position, out)
    if fault is not None:
        return ("out", fault)
    begin = stand_of(machine, position, out)
    fault = ("form",) if again == () else judge_path(machine, begin, again)
    if fault is not None:
        return ("round", fault)
    return None if position_above(machine, stand_of(machine, begin, again), begin) else ("back",)
