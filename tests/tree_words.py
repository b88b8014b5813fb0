"""Trees and rings by the words of the document."""

from act_words import told_results
from helpers import above
from lossbars.errors import TooMany
from lossbars.machines import Machine, without
from lossbars.values import is_value
from machine_words import COUNT, TILL, holds, holds_some, right, told_path

DOWN = without(TILL, ["up"])
# Two counts that are poured from one to the other.
POUR = Machine(("both", COUNT, COUNT), ["s"], [("pour", "s", ("then", ("first", ("take", 1)), ("second", ("add", 1))), "s"),
                                               ("drop", "s", ("second", ("take", 1)), "s")])
# One of two letters is chosen at each row.
FORK = Machine(COUNT, ["p", "q"], [("left", "p", ("take", 1), "p"), ("right", "p", ("take", 1), "q"), ("on", "q", ("take", 2), "p")])


def bounded_steps(machine, position):
    """All (name, end, value) of a position's steps; TooMany where a result passes WIDE."""
    found = [(name, end, came) for name, begin, act, end in machine.rules() if begin == position[0]
             for came in told_results(machine.kind, act, position[1])]
    if not all(is_value(machine.kind, came) for _, _, came in found):
        raise TooMany()
    return found


def told_ends(machine, position, some=None, knots=100):
    """What ends, and within, tell by the words of [8.2] and [8.3]; each knot keeps its whole branch."""
    if some is not None and not holds_some(machine, position, some):
        return ("tree", ())
    # A knot is told by its rows and by the positions that stand along its branch, its own one last.
    layer, every, numbered = [((), (position,))], [((), (position,), None)], {(): 0}
    while layer:
        below = []
        for rows, along in layer:
            for name, end, came in bounded_steps(machine, along[-1]):
                child = (end, came)
                if some is not None and not holds_some(machine, child, some):
                    continue
                for k, elder in enumerate(along):
                    if holds(machine, child, elder):
                        return ("ring", rows[:k], rows[k:] + ((name, came),))
                below.append((rows + ((name, came),), along + (child,)))
                every.append((rows + ((name, came),), along + (child,), name))
                numbered[rows + ((name, came),)] = len(every) - 1
        layer = below
        if len(every) > knots:
            raise TooMany()
    # Equal steps of one knot do not come about, so rows tell knots apart.
    return ("tree", tuple((numbered[rows[:-1]] if rows else None, name, along[-1][1]) for rows, along, name in every))


def told_tree(machine, position, value, some=None):
    """The first fault of a tree by the words of [8.1], [8.3] and [8.4]."""
    if some is not None and value == () and not holds_some(machine, position, some):
        return None
    if not isinstance(value, tuple) or not value:
        return ("form",)
    stands = []
    for k, knot in enumerate(value):
        found = None
        if isinstance(knot, tuple) and len(knot) == 3:
            parent, name, v = knot
            if k == 0:
                if parent is None and name is None and right(machine, (position[0], v)) and above(machine.kind, v, position[1]):
                    found = (position[0], v)
            elif type(parent) is int and 0 <= parent < k and isinstance(name, str):
                rules = [rule for rule in machine.rules() if rule[0] == name and rule[1] == stands[parent][0]]
                if rules and right(machine, (rules[0][3], v)):
                    found = (rules[0][3], v)
        if found is None:
            return ("knot", k)
        stands.append(found)
    for k, stand in enumerate(stands):
        for name, end, came in bounded_steps(machine, stand):
            if some is not None and not holds_some(machine, (end, came), some):
                continue
            if not any(knot[:2] == (k, name) and above(machine.kind, knot[2], came) for knot in value[1:]):
                return ("step", k, name, came)
    return None


def behind(machine, position, path):
    for name, value in path:
        position = ({rule[0]: rule[3] for rule in machine.rules()}[name], value)
    return position


def told_ring(machine, position, value, some=None):
    """The first fault of a ring by the words of [8.1], [8.3] and [8.4]."""
    if not isinstance(value, tuple) or len(value) != 2:
        return ("form",)
    fault = told_path(machine, position, value[0])
    if fault is not None:
        return ("out", fault)
    begin = behind(machine, position, value[0])
    fault = told_path(machine, begin, value[1])
    if fault is not None or len(value[1]) < 1:
        return ("round", fault or ("form",))
    if not holds(machine, behind(machine, begin, value[1]), begin):
        return ("back",)
    rows = value[0] + value[1]
    for k in range(len(rows) + 1):
        if some is not None and not holds_some(machine, behind(machine, position, rows[:k]), some):
            return ("kept", k)
    return None


def deepest(machine, position, most, some=None):
    """The greatest number of rows, at most most, of a path without losses, or of one that keeps some."""
    if some is not None and not holds_some(machine, position, some):
        return -1
    if most == 0:
        return 0
    return max([0] + [1 + deepest(machine, (end, came), most - 1, some) for _, end, came in bounded_steps(machine, position)])
