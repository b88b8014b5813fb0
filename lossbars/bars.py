"""Bars: lists of positions that are closed a step back."""

from lossbars.backs import Backs
from lossbars.standing import check_position_limits, check_positions, first_met, is_least_tuple, position_above_one


def judge_bar(machine, starts, bad, value):
    """None if any value is a bar for bad that bars starts; else its first fault."""
    check_position_limits(machine, starts)
    check_positions(machine, bad)
    if not is_least_tuple(machine, value):
        return ("form",)
    meeting = first_met(machine, starts, value)
    if meeting is not None:
        return ("start", meeting[0])
    for k, position in enumerate(bad):
        if not position_above_one(machine, position, value):
            return ("bad", k)
    backs = Backs(machine)
    for number, rule in enumerate(machine.rules()):
        k = first_open(machine, backs, number, value, value)
        if k is not None:
            return ("back", rule[0], k)
    return None


def first_open(machine, backs, number, some, others):
    """The place of the first of some of whose back, by the rule of this number, a position holds none of others."""
    for k, position in enumerate(some):
        for came in backs.by(number, position):
            if not position_above_one(machine, came, others):
                return k
    return None
