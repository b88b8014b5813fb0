"""Point 6.2: bars."""

import random
import unittest

from helpers import kept, untouched
from limit_words import ALL, row, to
from machine_words import (
    COUNT,
    LANE,
    NONE,
    STILL,
    TALK,
    TILL,
    changed,
    holds_some,
    least,
    meets,
    outcome,
    position_back,
    right,
    some_machine,
)
from lossbars.bars import judge_bar
from lossbars.errors import BadPosition, TooMany
from lossbars.machines import Machine, starts_at, without
from lossbars.rounds import decide

PAIRS = ("both", COUNT, COUNT)


class Bars(unittest.TestCase):

    def judge(self, machine, starts, bad, value, found):
        self.assertEqual(untouched(judge_bar, machine, starts, bad, value), found, value)

    def test_right_ones(self):
        self.judge(TILL, [("s", ALL)], [], (), None)
        self.judge(TILL, [], [], (("s", 0),), None)
        self.judge(STILL, [("p", to(2)), ("q", ALL)], [("p", 3)], (("p", 3),), None)
        # Not the least one, but closed a step back.
        self.judge(STILL, [("p", to(0)), ("q", to(1))], [("p", 3)], (("p", 1), ("q", 2)), None)
        self.judge(without(TALK, ["spoil"]), starts_at(TALK, [("p", ())]), [("q", ("a",))], (("p", ("b",)), ("q", ("a",))), None)
        self.judge(TALK, [("q", row())], [("q", ("a",))], (("p", ()), ("q", ("a",))), None)

    def test_forms(self):
        for value in NONE + [[("s", 1)], (("s", 1), 5), (("s", 1), ("s", 2)), (("s", 2), ("s", 1)), (("s", 1), ("s", 1)),
                             (("s", True),), ("s", 1), (["s", 1],)]:
            self.judge(TILL, [("s", ALL)], [("s", 0)], value, ("form",))
        for value in [(("q", ()), ("p", ())), (("p", ("b",)), ("p", ("a",))), (("p", ("a", "b")), ("p", ("b",))), (("p", ["a"]),)]:
            self.judge(TALK, [], [], value, ("form",))
        self.judge(Machine(LANE, ["q", "p"], []), [], [], (("q", ()), ("p", ())), None)

    def test_starts(self):
        starts = [("s", to(2)), ("s", to(5)), ("s", to(9))]
        self.judge(TILL, starts, [], (("s", 0),), ("start", 0))
        self.judge(TILL, starts, [("s", 1)], (("s", 5),), ("start", 1))
        self.judge(STILL, [("p", ALL), ("q", ALL)], [], (("q", 99),), ("start", 1))

    def test_bad_ones(self):
        self.judge(TILL, [("s", to(2))], [("s", 6), ("s", 4)], (("s", 5),), ("bad", 1))
        self.judge(STILL, [], [("p", 3), ("q", 3)], (("p", 1),), ("bad", 1))
        self.judge(TILL, [], [("s", 0)], (), ("bad", 0))

    def test_backs(self):
        self.judge(TILL, [("s", to(2))], [("s", 6), ("s", 9)], (("s", 6),), ("back", "up", 0))
        down = without(TILL, ["up"])
        self.judge(down, [("s", to(2))], [("s", 6)], (("s", 6),), None)
        self.judge(TALK, [], [("q", ("a",))], (("q", ("a",)),), ("back", "hear", 0))
        # The first rule, then the least place.
        self.judge(TALK, [], [], (("p", ("b", "a")), ("q", ("a", "b"))), ("back", "ask", 0))
        self.judge(TALK, [], [], (("p", ("b", "b")), ("q", ("a",))), ("back", "hear", 1))
        self.judge(TALK, [], [], (("p", ("b", "b")), ("q", ("b",))), ("back", "spoil", 0))

    def test_too_many(self):
        fall = Machine(COUNT, ["s", "t"], [("go", "t", ("add", 1), "t"), ("fall", "s", ("take", 20), "s")])
        self.judge(fall, [], [], (("s", 79),), None)
        self.assertEqual(kept(TooMany, judge_bar, fall, [], [], (("s", 80),)), {})
        # A fault that stands ahead goes ahead.
        self.judge(fall, [("s", ALL)], [], (("s", 80),), ("start", 0))
        self.judge(fall, [], [("t", 5)], (("s", 80),), ("bad", 0))
        self.judge(fall, [], [], (("s", 80), ("t", 5)), ("back", "go", 1))
        turned = Machine(COUNT, ["s", "t"], [("fall", "s", ("take", 20), "s"), ("go", "t", ("add", 1), "t")])
        self.assertEqual(kept(TooMany, judge_bar, turned, [], [], (("s", 80), ("t", 5))), {})
        # Of one rule the least place goes ahead, whichever it brings.
        value = (("s", (0, 90)), ("s", (80, 0)))
        first = Machine(PAIRS, ["s"], [("go", "s", ("or", ("first", ("take", 20)), ("second", ("add", 1))), "s")])
        self.judge(first, [], [], value, ("back", "go", 0))
        second = Machine(PAIRS, ["s"], [("go", "s", ("or", ("second", ("take", 20)), ("first", ("add", 1))), "s")])
        self.assertEqual(kept(TooMany, judge_bar, second, [], [], value), {})

    def test_errors_in_order(self):
        for value in NONE + [("s", 1)]:
            self.assertEqual(kept(BadPosition, judge_bar, TILL, [("s", ALL), value], [value], None), {"number": 1})
        for value in NONE + [("s", ALL)]:
            self.assertEqual(kept(BadPosition, judge_bar, TILL, [("s", ALL)], [("s", 0), ("s", 0), value], None), {"number": 2})

    def test_changed_bars(self):
        faults = {}
        for seed in range(400):
            draw = random.Random(seed)
            machine, starts, bad = some_machine(draw)
            found = outcome(decide, machine, starts, bad)
            if found is TooMany or found[0] != "bar":
                continue
            for value in [found[1]] + [changed(draw, found[1]) for _ in range(5)]:
                fault = outcome(judge_bar, machine, starts, bad, value)
                self.assertEqual(fault, outcome(told_bar, machine, starts, bad, value), value)
                word = fault if fault is TooMany or fault is None else fault[0]
                faults[word] = faults.get(word, 0) + 1
        self.assertGreater(min(faults["form"], faults[None]), 100)
        self.assertLessEqual({"form", "start", "bad", "back"}, set(faults))


def told_bar(machine, starts, bad, value):
    """The first fault of a bar by the words of [6.2]."""
    if not isinstance(value, tuple) or not all(right(machine, one) for one in value) or list(value) != least(machine, value):
        return ("form",)
    for k, start in enumerate(starts):
        if meets(machine, start, value):
            return ("start", k)
    for k, one in enumerate(bad):
        if not holds_some(machine, one, value):
            return ("bad", k)
    for rule in machine.rules():
        for k, one in enumerate(value):
            if not all(holds_some(machine, came, value) for came in position_back(machine, rule, one)):
                return ("back", rule[0], k)
    return None


if __name__ == "__main__":
    unittest.main()
