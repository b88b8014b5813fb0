"""Shields and growing by the words of the document."""

from act_words import told_forth
from helpers import ODD
from limit_words import pair, to
from lossbars.errors import BadLimit, TooMany
from lossbars.limits import is_limit, lies_within, limit_list
from lossbars.machines import Machine
from machine_words import COUNT, lies

DOWN = Machine(COUNT, ["s"], [("down", "s", ("take", 2), "s")])
PAIRS = ("both", COUNT, COUNT)
# Things that are no papers of any kind here.
PAPERS = ODD + ["paper", ("s", 1), ("s", ("to", 1)), [("s", 1)], (("s", ("to", 1)), 5), {"s": ("to", 1)}, [None], ((),)]


def edge(many, state="s"):
    """So many positions none of which holds another one; outside them lie the values of one limit less."""
    return [(state, (k, many - 1 - k)) for k in range(many)]


def stairs(many, state="s"):
    """So many limits of pairs none of which lies within another one; the least values outside them are one more."""
    return [(state, pair(to(k), to(many - 1 - k))) for k in range(many)]


def bounded_forth(machine, act, limit):
    """What is forth of a limit; TooMany if some of it passes WIDE, or of what is asked within it."""
    try:
        return told_forth(machine.kind, act, limit)
    except BadLimit:
        # What is made there is right but for its bounds.
        raise TooMany()


def covered(machine, limit, limits):
    return any(limit[0] == other[0] and lies_within(machine.kind, limit[1], other[1]) for other in limits)


def are_limits(machine, value):
    """Whether any value is a list or tuple of position limits."""
    return isinstance(value, (list, tuple)) and all(
        isinstance(one, tuple) and len(one) == 2 and one[0] in machine.states() and is_limit(machine.kind, one[1])
        for one in value)


def told_shield(machine, starts, bad, value):
    """The first fault of a shield by the words of [7.2]."""
    if not are_limits(machine, value):
        return ("form",)
    for k, start in enumerate(starts):
        if not covered(machine, start, value):
            return ("start", k)
    for k, position in enumerate(bad):
        if any(lies(machine, limit, position) for limit in value):
            return ("bad", k)
    for name, begin, act, end in machine.rules():
        for k, (state, limit) in enumerate(value):
            if state == begin:
                for came in bounded_forth(machine, act, limit):
                    if not covered(machine, (end, came), value):
                        return ("forth", name, k)
    return None


def told_joined(machine, limits):
    """Some position limits in one form."""
    return [(state, one) for state in machine.states()
            for one in limit_list(machine.kind, [limit for name, limit in limits if name == state])]


def told_grown(machine, starts, bad, *, limits=24, rounds=16):
    """What grown tells by the words of [7.4]."""
    listed, k = [told_joined(machine, starts)], 0
    while True:
        told = listed[k]
        if any(lies(machine, limit, position) for limit in told for position in bad):
            return ("run", k)
        if any(len([one for one in told if one[0] == state]) > limits for state in machine.states()):
            raise TooMany()
        if k > 0 and told == listed[k - 1]:
            return ("shield", told)
        if k == rounds:
            raise TooMany()
        came = [(end, one) for state, limit in told if k == 0 or (state, limit) not in listed[k - 1]
                for _, begin, act, end in machine.rules() if begin == state
                for one in bounded_forth(machine, act, limit)]
        listed.append(told_joined(machine, told + came))
        k += 1


def told_thinned(machine, starts, bad, shield):
    """What is left of a shield by the words of [7.4]."""
    left = list(shield)
    for k in reversed(range(len(shield))):
        rest = left[:k] + left[k + 1:]
        if told_shield(machine, starts, bad, rest) is None:
            left = rest
    return left
