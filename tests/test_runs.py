"""Points 5.4 and 5.5: steps, paths, runs."""

import random
import unittest

from helpers import kept, some_value, universe, untouched
from limit_words import ALL, A, once, often, row, to
from machine_words import (
    COUNT,
    NONE,
    STILL,
    TALK,
    TILL,
    changed,
    holds_some,
    lies,
    outcome,
    right,
    some_machine,
    told_path,
    told_steps,
)
from lossbars.errors import BadPosition, TooMany
from lossbars.machines import Machine, starts_at
from lossbars.rounds import decide
from lossbars.runs import judge_path, judge_run, stand_of, steps

RUN = (0, ("s", 0), (("up", 1), ("up", 2), ("up", 3)))
FORM = [None, True, 5, "up", [], [("up", 1)], {}, TILL]
# What cannot be a row of a path of TILL from 4, whatever it is.
NO_ROWS = [None, "up", (), ("up",), ("up", 5, 5), ["up", 5], ("down", True), ("s", 5), ("Up", 5), (["up"], 5), (None, 5),
           ("up", -1), ("up", "5"), ("up", 6), ("up", (5,)), ("up", [5]), ("down", 3), ("up", 100), (TILL, 5), ("up", TILL)]


class Steps(unittest.TestCase):

    def test_examples(self):
        self.assertEqual([steps(TILL, ("s", 2)), steps(TILL, ("s", 1)), stand_of(TILL, ("s", 2), (("up", 1), ("up", 2)))],
                         [[("up", 3), ("down", 0)], [("up", 2)], ("s", 2)])

    def test_rules_in_order_results_ascending(self):
        self.assertEqual(untouched(steps, TALK, ("p", ("a", "b", "a"))),
                         [("ask", ("a", "b", "a", "a")), ("hear", ("a",)), ("spoil", ("a", "b", "b")), ("spoil", ("b", "b", "a"))])
        self.assertEqual(untouched(steps, TALK, ("q", ("a", "b"))), [])
        self.assertEqual(untouched(steps, STILL, ("p", 5)), [])
        heaps = Machine(("heap", COUNT), ["s", "t"], [("take", "s", ("take", 1), "t"), ("s", "t", ("stay",), "s")])
        self.assertEqual(untouched(steps, heaps, ("s", (0, 1, 1, 3))), [("take", (0, 1, 1)), ("take", (0, 1, 3))])

    def test_wrong_positions(self):
        for value in NONE:
            self.assertEqual(kept(BadPosition, steps, TILL, value), {"number": 0})
            self.assertEqual(kept(BadPosition, judge_path, TILL, value, 5), {"number": 0})

    def test_too_many(self):
        self.assertEqual(kept(TooMany, steps, TILL, ("s", 99)), {})
        self.assertEqual(steps(TILL, ("s", 98)), [("up", 99), ("down", 96)])
        self.assertEqual(kept(TooMany, steps, TALK, ("p", ("a",) * 8)), {})
        self.assertEqual(steps(TALK, ("q", ("a",) * 8)), [])

    def test_stand_of(self):
        self.assertEqual(untouched(stand_of, TILL, ("s", 2), ()), ("s", 2))
        self.assertEqual(untouched(stand_of, TALK, ("p", ("b",)), (("ask", ("b",)), ("hear", ()))), ("q", ()))

    def test_random_ones(self):
        for seed in range(200):
            draw = random.Random(seed)
            machine, _, _ = some_machine(draw)
            position = (draw.choice(machine.states()), some_value(draw, machine.kind, 3, 3))
            self.assertEqual(untouched(steps, machine, position),
                             [(name, came[1]) for name, came in told_steps(machine, position)])


class Paths(unittest.TestCase):

    def judge(self, machine, position, value, found):
        self.assertEqual(untouched(judge_path, machine, position, value), found, (position, value))

    def test_examples(self):
        self.judge(TILL, ("s", 0), (("up", 1), ("up", 0), ("up", 1)), None)
        self.judge(TILL, ("s", 0), (("up", 2),), ("row", 0))
        self.judge(TILL, ("s", 1), (("up", 2), ("down", 0), ("down", 0)), ("row", 2))

    def test_right_ones(self):
        self.judge(TILL, ("s", 0), (), None)
        self.judge(STILL, ("p", 5), (), None)
        self.judge(TALK, ("p", ("b",)), (("ask", ("b", "a")), ("ask", ("a", "a")), ("spoil", ("b", "a")), ("hear", ("a",))), None)
        # Lost at any moment: also all there is, and ahead of a rule as behind it.
        self.judge(TALK, ("p", ("a", "b", "b")), (("hear", ()),), None)
        self.judge(TALK, ("p", ("b", "a")), (("ask", ()), ("ask", ("a",))), None)

    def test_faults(self):
        for value in FORM:
            self.judge(TILL, ("s", 4), value, ("form",))
        for value in NO_ROWS:
            self.judge(TILL, ("s", 4), (value,), ("row", 0))
            self.judge(TILL, ("s", 3), (("up", 4), value, None), ("row", 1))
            self.judge(TILL, ("s", 3), (("up", 4), value, ("up", 5)), ("row", 1))
        self.judge(TALK, ("q", ("b",)), (("hear", ()),), ("row", 0))
        self.judge(TALK, ("p", ("b",)), (("hear", ()), ("ask", ())), ("row", 1))
        self.judge(TALK, ("p", ("b",)), (("spoil", ("b",)),), ("row", 0))
        self.judge(TALK, ("p", ("a",)), (("ask", ["a"]),), ("row", 0))
        self.judge(TALK, ("p", ("a",)), (("ask", ("a",) * 9),), ("row", 0))
        # Nothing is lost without a rule.
        self.judge(TILL, ("s", 4), (("s", 3),), ("row", 0))

    def test_too_many(self):
        position = ("s", 99)
        for path in [(("up", 5),), (("up", 99),), (("up", 5), None), (("down", 97), ("up", 98), ("up", 99), ("up", 7))]:
            self.assertEqual(kept(TooMany, judge_path, TILL, position, path), {}, path)
        # Not for what is no row, nor behind one, nor for another rule.
        self.judge(TILL, position, (("down", 97),), None)
        self.judge(TILL, position, (("up", 100),), ("row", 0))
        self.judge(TILL, position, (("up", True),), ("row", 0))
        self.judge(TILL, position, (("up", 5, 5),), ("row", 0))
        self.judge(TILL, position, (("go", 5),), ("row", 0))
        self.judge(TILL, position, (("down", 98), ("up", 5)), ("row", 0))
        self.judge(TALK, ("q", ("a",) * 8), (("ask", ("a",)),), ("row", 0))

    def test_random_paths(self):
        faults = {}
        for seed in range(400):
            draw = random.Random(seed)
            machine, _, _ = some_machine(draw)
            start = (draw.choice(machine.states()), some_value(draw, machine.kind, 3, 2))
            path, position = [], start
            for _ in range(draw.randint(0, 4)):
                came = told_steps(machine, position)
                if not came:
                    break
                name, position = draw.choice(came)
                if draw.random() < 0.3:
                    position = (position[0], some_value(draw, machine.kind, 3, 2))
                path.append((name, position[1]))
            if path and draw.random() < 0.3:
                k = draw.randrange(len(path))
                path = draw.choice([path[:k] + path[k + 1:], path[:k] + [path[k]] + path[k:], path[::-1]])
            found = told_path(machine, start, tuple(path))
            self.judge(machine, start, tuple(path), found)
            faults[found is None] = faults.get(found is None, 0) + 1
            if found is None and path:
                self.assertEqual(stand_of(machine, start, tuple(path)), (machine.rule(path[-1][0])[2], path[-1][1]))
        self.assertGreater(min(faults.values()), 30)


class Runs(unittest.TestCase):

    def judge(self, starts, bad, value, found):
        self.assertEqual(untouched(judge_run, TILL, starts, bad, value), found, value)

    def test_examples(self):
        self.judge([("s", to(0))], [("s", 3)], RUN, None)
        self.judge([("s", to(0))], [("s", 4)], RUN, ("end",))
        self.judge([], [], RUN, ("start",))

    def test_right_ones(self):
        self.judge((("s", to(0)), ("s", ALL)), (("s", 50), ("s", 3)), (1, ("s", 3), ()), None)
        self.judge([("s", ALL)], [("s", 60), ("s", 4)], (0, ("s", 5), (("down", 3), ("up", 4))), None)
        self.assertIsNone(judge_run(TALK, [("p", row(often(A)))], [("q", ())],
                                    (0, ("p", ("a", "a")), (("spoil", ("b",)), ("hear", ())))))

    def test_faults(self):
        starts, bad = [("s", to(2)), ("s", to(0))], [("s", 3)]
        for value in FORM + [(), (0,), (0, ("s", 0)), RUN + (0,), list(RUN)]:
            self.judge(starts, bad, value, ("form",))
        for number in [2, -1, True, False, None, "0", (0,), 10 ** 39]:
            self.judge(starts, bad, (number,) + RUN[1:], ("start",))
        for position in NONE + [("s", 3), ("s", 1)]:
            self.judge(starts, bad, (1, position, RUN[2]), ("start",))
        self.judge(starts, bad, (0, ("s", 3), ()), ("start",))
        for value in FORM:
            self.judge(starts, bad, RUN[:2] + (value,), ("path", ("form",)))
        for value in NO_ROWS:
            self.judge(starts, bad, (0, ("s", 2), (("up", 3), ("up", 4), value, None)), ("path", ("row", 2)))
        self.judge(starts, bad, (0, ("s", 2), (("down", 0),)), ("end",))
        self.judge(starts, [], RUN, ("end",))
        self.judge(starts, [("s", 4), ("s", 5)], RUN, ("end",))

    def test_the_first_of_several_faults(self):
        self.judge([("s", to(2))], [], (1, ("s", 0), None), ("start",))
        self.judge([("s", to(2))], [], (0, ("s", 2), (None,)), ("path", ("row", 0)))
        self.judge([("s", to(2))], [], (0, ("s", 2), ()), ("end",))

    def test_errors_in_order(self):
        for value in NONE:
            self.assertEqual(kept(BadPosition, judge_run, TILL, [("s", ALL), value], [value], None), {"number": 1})
            self.assertEqual(kept(BadPosition, judge_run, TILL, [("s", ALL)], [("s", 1), ("s", 1), value], None), {"number": 2})
        # A position is no start, and a start nothing bad.
        self.assertEqual(kept(BadPosition, judge_run, TILL, [("s", 1)], [], RUN), {"number": 0})
        self.assertEqual(kept(BadPosition, judge_run, TILL, [], [("s", ALL)], RUN), {"number": 0})
        long = (0, ("s", 99), (("up", 99),))
        self.assertEqual(kept(TooMany, judge_run, TILL, [("s", ALL)], [], long), {})
        self.assertEqual(kept(BadPosition, judge_run, TILL, [("s", ALL)], [0], long), {"number": 0})
        self.judge([("s", to(98))], [], long, ("start",))

    def test_wide_positions(self):
        self.judge([("s", ALL)], [("s", 99)], (0, ("s", 98), (("up", 99),)), None)
        self.assertIsNone(judge_run(TALK, [("q", row(once(A))), ("p", row(often(A)))], [("p", ("a",) * 8)],
                                    (1, ("p", ("a",) * 7), (("ask", ("a",) * 8),))))

    def test_random_runs(self):
        ends = {}
        for seed in range(200):
            draw = random.Random(seed)
            machine, starts, bad = some_machine(draw)
            values = universe(machine.kind, 1, 1)
            start = (draw.choice(machine.states()), draw.choice(values))
            path = tuple((name, came[1]) for name, came in told_steps(machine, start)[:1])
            limits = starts + starts_at(machine, [start])
            found = judge_run(machine, limits, bad, (len(starts), start, path))
            good = holds_some(machine, stand_of(machine, start, path), bad)
            self.assertEqual(found, None if good else ("end",))
            ends[good] = ends.get(good, 0) + 1
        self.assertGreater(min(ends.values()), 10)

    def test_changed_runs(self):
        faults = {}
        for seed in range(800):
            draw = random.Random(seed)
            machine, starts, bad = some_machine(draw, rules=6)
            found = outcome(decide, machine, starts, bad)
            if found is TooMany or found[0] != "run":
                continue
            papers = [found[1][:2] + (changed(draw, found[1][2]),) for _ in range(6 if found[1][2] else 1)]
            for value in [found[1], changed(draw, found[1]), changed(draw, found[1])] + papers:
                fault = judge_run(machine, starts, bad, value)
                self.assertEqual(fault, told_run(machine, starts, bad, value), value)
                word = fault if fault is None else fault[0]
                faults[word] = faults.get(word, 0) + 1
        self.assertGreater(min(faults[word] for word in (None, "form", "start", "path", "end")), 10)


def told_run(machine, starts, bad, value):
    """The first fault of a run by the words of [5.5]."""
    if not isinstance(value, tuple) or len(value) != 3:
        return ("form",)
    number, position, path = value
    if not any(number == k and number is not True and number is not False for k in range(len(starts))):
        return ("start",)
    if not right(machine, position) or not lies(machine, starts[number], position):
        return ("start",)
    fault = told_path(machine, position, path)
    if fault is not None:
        return ("path", fault)
    last = (machine.rule(path[-1][0])[2], path[-1][1]) if path else position
    return None if holds_some(machine, last, bad) else ("end",)


if __name__ == "__main__":
    unittest.main()
