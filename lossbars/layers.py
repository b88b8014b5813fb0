"""Layers: where a machine may stand behind so many rules."""

from lossbars.backward import act_back
from lossbars.forward import act_forth
from lossbars.standing import check_position, check_position_limits, joined_of, numbers_inside


def layers(machine, starts, k, *, limits=60):
    """The list of the lists of position limits in which what comes of starts by 0 to k rules lies."""
    check_position_limits(machine, starts)
    return _layers_to(machine, starts, k, limits)


def way_to(machine, starts, k, position, *, limits=60):
    """A start's number, a position and a path of k rows from there to the position; None if there is no such."""
    check_position_limits(machine, starts)
    check_position(machine, position, len(starts))
    made = _layers_to(machine, starts, k, limits)
    if not numbers_inside(machine, made[k], position):
        return None
    rows = []
    for layer in reversed(made[:k]):
        name, before = _step_back(machine, layer, position)
        rows = [(name, position[1])] + rows
        position = before
    return (numbers_inside(machine, starts, position)[0], position, tuple(rows))


def _layers_to(machine, starts, k, most):
    layer = joined_of(machine, starts, most)
    found = [layer]
    for _ in range(k):
        layer = joined_of(machine, forths_of(machine, layer), most)
        found.append(layer)
    return found


def forths_of(machine, limits):
    """The position limits of what is forth, by each rule, of some position limits."""
    return [
        (end, came)
        for state, limit in limits
        for _, begin, act, end in machine.rules()
        if begin == state
        for came in act_forth(machine.kind, act, limit)
    ]


def _step_back(machine, layer, position):
    """The first rule's name and the first position of its back that lies in the layer."""
    state, value = position
    for name, begin, act, end in machine.rules():
        if end == state:
            for b in act_back(machine.kind, act, value):
                if numbers_inside(machine, layer, (begin, b)):
                    return (name, (begin, b))
    return None
