"""Answers and verdicts about the moments of a house."""

from lossbars.bars import judge_bar
from lossbars.branches import tried
from lossbars.rounds import decide
from lossbars.runs import judge_run
from lossbars.shields import judge_shield
from lossbars.standing import check_position_limit, check_positions, position_limits_in_order


def answer(house, number, start):
    """Whether a run leads from a start to something bad at a moment, "wrong", or none does, "fine"."""
    return verdict(house, number, start)[0]


def verdict(house, number, start):
    """The answer for a start at a moment, and a paper for it."""
    word, told = decide(house.machine_at(number), [start], house.moment(number)[2])
    return ("wrong" if word == "run" else "fine", (word, told))


def answers(house, number):
    """The list of all (start, answer) of the starts told at a moment, ascending."""
    return [(start, answer(house, number, start)) for start in house.moment(number)[1]]


def judge_verdict(machine, bad, start, value):
    """Whether any value is a verdict for a start by a machine and a list of bad positions."""
    check_positions(machine, bad)
    check_position_limit(machine, start, len(bad))
    if not _has_form(value):
        return False
    word, told = value[1]
    if word == "run":
        return judge_run(machine, [start], bad, told) is None
    if word == "bar":
        return judge_bar(machine, [start], bad, told) is None
    return judge_shield(machine, [start], bad, told) is None


def right_at(house, start, value):
    """The ascending list of the numbers of the moments at which any value is a verdict for a start."""
    check_position_limit(house, start, 0)
    known, found = {}, []
    for number in range(len(house)):
        rules, _, bad = house.moment(number)
        # Moments often tell the same rules and bad positions; their text stands for them, as in a key they might be
        # nested too deep.
        text = repr((rules, bad))
        if text not in known:
            known[text] = judge_verdict(house.machine_at(number), bad, start, value)
        if known[text]:
            found.append(number)
    return found


def would_change(house, deeds):
    """The list of all (start, answer now, answer behind some deeds) that would be different; the house stays."""
    other = house.twin()
    tried(other, deeds)
    now, then = answers(house, house.present()), answers(other, other.present())
    starts = [start for start, _ in now]
    starts.extend([start for start, _ in then if start not in starts])
    found = []
    for start in position_limits_in_order(house, starts):
        before, after = _answer_in(now, start), _answer_in(then, start)
        if before != after:
            found.append((start, before, after))
    return found


def _answer_in(told, start):
    """The answer for a start in a list of them; None if it is not there."""
    for other, word in told:
        if other == start:
            return word
    return None


def _has_form(value):
    """Whether any value is a tuple of an answer and a paper that may be one for it."""
    if not _is_told_pair(value) or not _is_told_pair(value[1]):
        return False
    word, told = value[1]
    if value[0] == "wrong":
        return word == "run"
    return value[0] == "fine" and (word == "bar" or (word == "shield" and isinstance(told, tuple)))


def _is_told_pair(value):
    return isinstance(value, tuple) and len(value) == 2
