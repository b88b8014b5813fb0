"""Steps, paths and runs of machines."""

from lossbars.acts import act_results
from lossbars.forms import form_fault, is_number
from lossbars.holding import above
from lossbars.standing import (
    check_position,
    check_position_limits,
    check_positions,
    is_right_position,
    lies_in,
    position_above_one,
)


def steps(machine, position):
    """The list of all (name, value) of the rules that begin in the position's state and of their results."""
    check_position(machine, position, 0)
    state, value = position
    return [
        (name, came)
        for name, begin, act, _ in machine.rules()
        if begin == state
        for came in act_results(machine.kind, act, value)
    ]


def stand_of(machine, position, path):
    """The position behind the last row of a path."""
    if not path:
        return position
    name, value = path[-1]
    return (machine.rule(name)[2], value)


def judge_path(machine, position, value):
    """None if any value is a path from the position; else its first fault."""
    check_position(machine, position, 0)
    return _path_fault(machine, position, value)


def judge_run(machine, starts, bad, value):
    """None if any value is a run from starts to bad; else its first fault."""
    check_position_limits(machine, starts)
    check_positions(machine, bad)
    if not isinstance(value, tuple) or len(value) != 3:
        return ("form",)
    number, position, path = value
    if not is_number(number, 0, len(starts) - 1) or not is_right_position(machine, position):
        return ("start",)
    if not lies_in(machine, starts[number], position):
        return ("start",)
    fault = _path_fault(machine, position, path)
    if fault is not None:
        return ("path", fault)
    return None if position_above_one(machine, stand_of(machine, position, path), bad) else ("end",)


def _path_fault(machine, position, value):
    """As judge_path, for a position that is known to be right."""
    if not isinstance(value, tuple):
        return ("form",)
    for k, row in enumerate(value):
        if not _is_row_from(machine, position, row):
            return ("row", k)
        position = stand_of(machine, position, (row,))
    return None


def _is_row_from(machine, position, row):
    """Whether any value is a row that can stand where a machine stands so."""
    if not isinstance(row, tuple) or len(row) != 2 or row[0] not in machine:
        return False
    begin, act, _ = machine.rule(row[0])
    if begin != position[0] or form_fault(machine.kind, row[1]) is not None:
        return False
    for came in act_results(machine.kind, act, position[1]):
        if above(machine.kind, came, row[1]):
            return True
    return False
