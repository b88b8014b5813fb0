"""Endings: whether all paths from a position end, told by a tree or a ring."""

from lossbars.errors import TooMany
from lossbars.holding import above
from lossbars.runs import steps
from lossbars.standing import check_position, check_positions, position_above_one
from lossbars.trees import branch, depth


def ends(machine, position, *, knots=100):
    """Either ("tree", value), a tree for the position, or ("ring", out, round)."""
    check_position(machine, position, 0)
    return _tree_or_ring(machine, position, None, knots)


def within(machine, position, some, *, knots=100):
    """As ends, for the paths that keep a list of positions."""
    check_positions(machine, some)
    check_position(machine, position, len(some))
    if not position_above_one(machine, position, some):
        return ("tree", ())
    return _tree_or_ring(machine, position, some, knots)


def longest(machine, position, *, knots=100):
    """The greatest number of rows that a path from the position has; None if there is no greatest."""
    found = ends(machine, position, knots=knots)
    return depth(found[1]) if found[0] == "tree" else None


def _tree_or_ring(machine, position, some, most):
    """Layer by layer the tree for all paths, or for those that keep some; some is None for all."""
    tree, states = [(None, None, position[1])], [position[0]]
    begin = 0
    while begin < len(tree):
        end = len(tree)
        for parent in range(begin, end):
            for name, state, value in _children(machine, (states[parent], tree[parent][2]), some):
                held = _first_held(machine, tree, states, parent, (state, value))
                if held is not None:
                    out, onward = branch(tree, held), branch(tree, parent)
                    return ("ring", out, onward[len(out):] + ((name, value),))
                tree.append((parent, name, value))
                states.append(state)
        if len(tree) > most:
            raise TooMany()
        begin = end
    return ("tree", tuple(tree))


def _children(machine, position, some):
    """The rule's name, the state and the value of each step of a position, or of those that keep some."""
    found = [(name, machine.rule(name)[2], value) for name, value in steps(machine, position)]
    if some is None:
        return found
    return [child for child in found if position_above_one(machine, (child[1], child[2]), some)]


def _first_held(machine, tree, states, number, position):
    """The knot nearest to knot 0, of the branch to the one of this number, that a position holds; None for none."""
    found = None
    while number is not None:
        if states[number] == position[0] and above(machine.kind, position[1], tree[number][2]):
            found = number
        number = tree[number][0]
    return found
