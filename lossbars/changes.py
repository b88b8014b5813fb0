"""Machines changed: renamed, put beside one another, and with the fewest rules taken away."""

from itertools import combinations

from lossbars.errors import TooMany, UnknownName
from lossbars.forms import lowest
from lossbars.machines import Machine, without
from lossbars.rounds import decide
from lossbars.sorts import sort_fault
from lossbars.standing import least_of

LETTERS = "abcdefghijklmnopqrstuvwxyz"


def renamed(machine, states, rules):
    """The machine with other names; states and rules are dicts from all names to the new ones."""
    told = [(rules[name], states[begin], act, states[end]) for name, begin, act, end in machine.rules()]
    return Machine(machine.kind, [states[state] for state in machine.states()], told)


def beside(one, other):
    """The machine that does the rules of two machines beside one another."""
    rules = []
    for name, begin, act, end in one.rules():
        for state in other.states():
            ends = (beside_state(one, other, begin, state), beside_state(one, other, end, state))
            rules.append((beside_rule(one, other, 0, name, state), ends[0], ("first", act), ends[1]))
    for name, begin, act, end in other.rules():
        for state in one.states():
            ends = (beside_state(one, other, state, begin), beside_state(one, other, state, end))
            rules.append((beside_rule(one, other, 1, name, state), ends[0], ("second", act), ends[1]))
    return Machine(_both_sorts(one, other), _both_states(one, other), rules)


def beside_state(one, other, x, y):
    """The name of the state that stands for a state of one and a state of other."""
    number = one.states().index(x) * len(other.states()) + other.states().index(y)
    return "s" + _written(number)


def beside_rule(one, other, side, name, state):
    """The name of the rule that does a rule of one, side 0, or of other, side 1, while the other one stands so."""
    names = [[rule[0] for rule in machine.rules()] for machine in (one, other)]
    if side == 0:
        return "r" + _written(names[0].index(name) * len(other.states()) + other.states().index(state))
    ahead = len(one) * len(other.states())
    return "r" + _written(ahead + names[1].index(name) * len(one.states()) + one.states().index(state))


def beside_starts(one, other, starts, others):
    """The list of the position limits of both, for each of starts and each of others."""
    return [
        (beside_state(one, other, x, y), ("pair", limit, more))
        for x, limit in starts
        for y, more in others
    ]


def lifted_run(one, other, side, run, position):
    """The run of both machines in which one of them does a run and the other one stands in a position."""
    number, first, path = run
    rows = []
    for name, value in path:
        rows.append((beside_rule(one, other, side, name, position[0]), _both_values(side, value, position[1])))
    return (number, _both_positions(one, other, side, first, position), tuple(rows))


def lifted_bar(one, other, side, bar):
    """The tuple of the least positions of both made of a bar of one machine and any position of the other one."""
    machine = Machine(_both_sorts(one, other), _both_states(one, other), [])
    standing = other if side == 0 else one
    positions = [
        _both_positions(one, other, side, position, (state, value))
        for position in bar
        for state in standing.states()
        for value in lowest(standing.kind)
    ]
    return tuple(least_of(machine, positions))


def fewest_taken(machine, starts, bad, marked):
    """Either ("taken", names, bar), of the fewest marked rules without which nothing goes wrong, or ("none", run)."""
    for name in marked:
        if name not in machine:
            raise UnknownName(name)
    names, answer = list(marked), None
    for many in range(len(names) + 1):
        for taken in combinations(names, many):
            answer = decide(without(machine, taken), starts, bad)
            if answer[0] == "bar":
                return ("taken", taken, answer[1])
    # The last set that was gone through is that of all marked rules.
    return ("none", answer[1])


def _written(number):
    """A number in letters: a to z, then aa, ab and so on."""
    found = LETTERS[number % 26]
    while number >= 26:
        number = number // 26 - 1
        found = LETTERS[number % 26] + found
    return found


def _both_sorts(one, other):
    """The sort of the pairs of values of two machines; TooMany if it is none."""
    sort = ("both", one.kind, other.kind)
    if sort_fault(sort) is not None:
        raise TooMany()
    return sort


def _both_states(one, other):
    return [beside_state(one, other, x, y) for x in one.states() for y in other.states()]


def _both_values(side, value, other):
    """The pair of a value of the machine that goes and one of the machine that stands."""
    return (value, other) if side == 0 else (other, value)


def _both_positions(one, other, side, position, stands):
    x, y = _both_values(side, position[0], stands[0])
    return (beside_state(one, other, x, y), _both_values(side, position[1], stands[1]))
