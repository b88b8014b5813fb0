"""Machines for several tests, and paths, runs and layers by plain search."""

from act_words import some_act, told_back, told_results
from helpers import ODD, above, inside, key, some_limit, some_sort, some_value
from lossbars.errors import TooMany
from lossbars.limits import shaped
from lossbars.machines import Machine
from lossbars.values import is_value

COUNT = ("count",)
AB = ("mark", ("a", "b"))
LANE = ("lane", AB)
TILL = Machine(COUNT, ["s"], [("up", "s", ("add", 1), "s"), ("down", "s", ("take", 2), "s")])
TALK = Machine(LANE, ["p", "q"], [("ask", "p", ("send", "a"), "p"), ("hear", "p", ("receive", "b"), "q"),
                                  ("spoil", "p", ("any", ("turn", "a", "b")), "p")])
STILL = Machine(COUNT, ["p", "q"], [])
# Things that are no positions and no position limits of any of these machines.
NONE = ODD + [("s",), ("s", 1, 1), ["s", 1], ("t", 1), (5, 1), (None, None), ("s", "a"), (("s",), 1), ("s", [1]),
              ("s", True), ("s", -1), ("s", 100), ("p", ["a"]), ("p", ("c",)), ("q", ("a",) * 9), (["p"], ("a",)),
              ("s", ("to", -1)), ("s", ("to", 100)), ("s", ("to", True)), ("p", ("row", [])),
              ("p", ("row", (("often", (("is", "b"), ("is", "a"))),))), TILL]


def some_machine(draw, tuples=3, stores=2, rules=4, sort=None):
    """A machine, of this sort if one is told, starts and bad positions, all small."""
    sort = some_sort(draw, tuples, stores) if sort is None else sort
    states = ["p", "q", "r"][:draw.randint(1, 3)]
    names = ["one", "two", "p", "four", "five", "six"][:draw.randint(0, rules)]
    machine = Machine(sort, states, [(name, draw.choice(states), some_act(draw, sort, 2), draw.choice(states)) for name in names])
    starts = [(draw.choice(states), shaped(sort, some_limit(draw, sort, 3, 2))) for _ in range(draw.randint(0, 3))]
    bad = [(draw.choice(states), some_value(draw, sort, 4, 2)) for _ in range(draw.randint(0, 3))]
    return machine, starts, bad


def position_key(machine, position):
    return (machine.states().index(position[0]), key(machine.kind, position[1]))


def holds(machine, one, other):
    return one[0] == other[0] and above(machine.kind, one[1], other[1])


def holds_some(machine, one, some):
    return any(holds(machine, one, other) for other in some)


def lies(machine, limit, position):
    return limit[0] == position[0] and inside(machine.kind, limit[1], position[1])


def least(machine, some):
    """The least list of some positions."""
    each = list(dict.fromkeys(some))
    rest = [one for one in each if not any(other != one and holds(machine, one, other) for other in each)]
    return sorted(rest, key=lambda one: position_key(machine, one))


def told_steps(machine, position):
    """All (name, position) that come of a position by one rule, without losses."""
    return [(name, (end, came)) for name, begin, act, end in machine.rules() if begin == position[0]
            for came in told_results(machine.kind, act, position[1])]


def told_path(machine, position, value):
    """The first fault of a path by the words of [5.4]; values may be any."""
    if not isinstance(value, tuple):
        return ("form",)
    for k, row in enumerate(value):
        fits = [came for name, came in told_steps(machine, position)
                if isinstance(row, tuple) and len(row) == 2 and row[0] == name and right(machine, (came[0], row[1]))]
        if not any(above(machine.kind, came[1], row[1]) for came in fits):
            return ("row", k)
        position = (fits[0][0], row[1])
    return None


def right(machine, value):
    """Whether a value is a position."""
    return isinstance(value, tuple) and len(value) == 2 and value[0] in machine.states() and is_value(machine.kind, value[1])


def reach(machine, positions, bad, rows):
    """For each of some positions whether it has a path of at most so many rows to what holds a bad one."""
    known = {}

    def comes(position, left):
        if (position, left) not in known:
            known[(position, left)] = holds_some(machine, position, bad) or (
                left > 0 and any(comes(came, left - 1) for _, came in told_steps(machine, position)))
        return known[(position, left)]

    return [comes(position, rows) for position in positions]


def come_of(machine, positions, rows):
    """All positions that come of some by just so many rows, without losses."""
    for _ in range(rows):
        positions = list(dict.fromkeys(came for position in positions for _, came in told_steps(machine, position)))
    return positions


def cheapest_price(machine, prices, positions, bad, most):
    """The least price, at most most, of a path from one of some positions to what holds a bad one; None if none is."""
    costs = dict(zip((rule[0] for rule in machine.rules()), prices))
    layers = [list(positions)]
    for price in range(most + 1):
        if any(holds_some(machine, position, bad) for position in layers[price]):
            return price
        came = [there for name, cost in costs.items() if cost <= price + 1 for position in layers[price + 1 - cost]
                for step, there in told_steps(machine, position) if step == name]
        layers.append(list(dict.fromkeys(came)))
    return None


def position_back(machine, rule, position):
    """The back of a position by a rule by the words of [6.1]."""
    _, begin, act, end = rule
    return [(begin, v) for v in told_back(machine.kind, act, position[1])] if position[0] == end else []


def backs_of(machine, some, most=None):
    """The backs of some positions by all rules; TooMany for one of more than most."""
    found = []
    for position in some:
        for rule in machine.rules():
            came = position_back(machine, rule, position)
            if most is not None and len(came) > most:
                raise TooMany()
            found += came
    return found


def told_rounds(machine, bad, k, most=None):
    """B(0) to B(k) by the words of [6.1]; TooMany as there."""
    found = [least(machine, bad)]
    if most is not None and len(found[0]) > most:
        raise TooMany()
    for j in range(k):
        new = [one for one in found[j] if j == 0 or one not in found[j - 1]]
        found.append(least(machine, found[j] + backs_of(machine, new, most)))
        if most is not None and len(found[-1]) > most:
            raise TooMany()
    return found


def outcome(call, *arguments, **caps):
    """What a call returns, or TooMany if it raises it."""
    try:
        return call(*arguments, **caps)
    except TooMany:
        return TooMany


def meets(machine, start, some):
    return any(lies(machine, start, position) for position in some)


def changed(draw, value):
    """A paper with some part changed, left out, put in, doubled or turned about."""
    if not isinstance(value, tuple) or not value or draw.random() < 0.2:
        return draw.choice([None, True, 0, 1, -1, 100, "p", "one", (), [], ("p", 1), ("p", ()), {}])
    k = draw.randrange(len(value))
    return draw.choice([
        lambda: value[:k] + (changed(draw, value[k]),) + value[k + 1:],
        lambda: value[:k] + value[k + 1:],
        lambda: value[:k] + (value[k],) + value[k:],
        lambda: value[:k] + (draw.choice(["p", 0, (), ("p", ())]),) + value[k:],
        lambda: value[::-1],
        lambda: list(value),
    ])()
