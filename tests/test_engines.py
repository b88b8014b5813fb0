"""Point 6.4: positions taken one by one, and the log of it."""

import random
import unittest

from helpers import kept, untouched
from limit_words import ALL, often, A, row, to
from machine_words import (
    COUNT,
    LANE,
    NONE,
    STILL,
    TALK,
    TILL,
    backs_of,
    changed,
    least,
    meets,
    outcome,
    right,
    some_machine,
)
from lossbars.bars import judge_bar
from lossbars.engines import judge_log, list_behind, one_by_one
from lossbars.errors import BadPosition, TooMany
from lossbars.machines import Machine, without
from lossbars.rounds import decide, rounds_to
from lossbars.runs import judge_run

UP = Machine(COUNT, ["s"], [("up", "s", ("add", 1), "s")])
QUIET = without(TALK, ["spoil"])
FALL = Machine(COUNT, ["s", "t"], [("go", "t", ("add", 1), "t"), ("fall", "s", ("take", 20), "s")])
LOG = ((("s", 2), (("s", 1),)), (("s", 1), (("s", 0),)), (("s", 0), ()))


class OneByOne(unittest.TestCase):

    def take(self, machine, starts, bad, way, found):
        self.assertEqual(untouched(one_by_one, machine, starts, bad, way), found)
        self.assertIsNone(judge_log(machine, bad, found[1]))

    def test_bars(self):
        for way in ["first", "last"]:
            self.take(UP, [], [("s", 2)], way, (("bar", (("s", 0),)), LOG))
            self.take(UP, [], [("s", 2), ("s", 5)], way, (("bar", (("s", 0),)), LOG))
            self.take(STILL, [("p", ALL)], [], way, (("bar", ()), ()))
            self.take(STILL, [("p", to(2))], [("p", 3)], way, (("bar", (("p", 3),)), ((("p", 3), ()),)))

    def test_the_first_and_the_last(self):
        bad = [("q", ("a",)), ("p", ("a", "b"))]
        self.take(QUIET, [], bad, "first", (("bar", (("p", ("b",)), ("q", ("a",)))), (
            (("p", ("a", "b")), ()), (("q", ("a",)), (("p", ("b", "a")),)), (("p", ("b", "a")), (("p", ("b",)),)),
            (("p", ("b",)), ()))))
        self.take(QUIET, [], bad, "last", (("bar", (("p", ("b",)), ("q", ("a",)))), (
            (("q", ("a",)), (("p", ("b", "a")),)), (("p", ("b", "a")), (("p", ("b",)),)), (("p", ("b",)), ()))))

    def test_runs(self):
        answer, log = untouched(one_by_one, UP, [("s", to(0))], [("s", 2)], "first")
        self.assertEqual(log, LOG[:2])
        self.assertEqual(answer[0], "run")
        self.assertIsNone(judge_run(UP, [("s", to(0))], [("s", 2)], answer[1]))
        # A start that meets something bad at once.
        self.assertEqual(one_by_one(UP, [("s", to(0)), ("s", to(7))], [("s", 7)], "last"), (("run", (1, ("s", 7), ())), ()))
        starts = [("q", row()), ("p", row(often(A)))]
        (word, run), log = one_by_one(TALK, starts, [("q", ("a", "a"))], "first")
        self.assertEqual((word, run[0]), ("run", 1))
        self.assertIsNone(judge_run(TALK, starts, [("q", ("a", "a"))], run))

    def test_the_cap(self):
        self.assertEqual(one_by_one(UP, [], [("s", 2)], "first", taken=3), (("bar", (("s", 0),)), LOG))
        self.assertEqual(kept(TooMany, one_by_one, UP, [], [("s", 2)], "first", taken=2), {})
        self.assertEqual(one_by_one(UP, [("s", to(0))], [("s", 2)], "last", taken=2)[0][0], "run")
        self.assertEqual(kept(TooMany, one_by_one, UP, [("s", to(0))], [("s", 2)], "last", taken=1), {})
        self.assertEqual(len(one_by_one(UP, [], [("s", 59)], "first")[1]), 60)
        self.assertEqual(kept(TooMany, one_by_one, UP, [], [("s", 60)], "first"), {})
        self.assertEqual(len(one_by_one(UP, [("s", to(0))], [("s", 60)], "last")[1]), 60)
        self.assertEqual(one_by_one(STILL, [("p", ALL)], [], "last", taken=1), (("bar", ()), ()))

    def test_back_may_raise_it(self):
        self.assertEqual(kept(TooMany, one_by_one, FALL, [], [("s", 80), ("t", 3)], "first"), {})
        self.assertEqual(kept(TooMany, one_by_one, FALL, [], [("s", 80), ("t", 3)], "last"), {})
        self.assertEqual(one_by_one(FALL, [("t", to(3))], [("s", 80), ("t", 4)], "last")[0][0], "run")
        self.assertEqual(kept(TooMany, one_by_one, FALL, [("t", to(3))], [("s", 80), ("t", 4)], "first"), {})
        self.assertEqual(one_by_one(FALL, [], [("s", 79)], "last")[0], ("bar", (("s", 79),)))
        # However many positions there are, and however many are back of one.
        wide = Machine(LANE, ["p", "q"], [("go", "q", ("need", ("a",) * 4), "p")])
        self.assertEqual(len(one_by_one(wide, [], [("p", ("b",) * 3)], "first")[0][1]), 36)

    def test_wrong_ones(self):
        for value in NONE + [("s", 1)]:
            self.assertEqual(kept(BadPosition, one_by_one, TILL, [("s", ALL), value, value], [value], "first"), {"number": 1})
        for value in NONE + [("s", ALL)]:
            self.assertEqual(kept(BadPosition, one_by_one, TILL, [("s", ALL)], [("s", 0), ("s", 0), value], "last"), {"number": 2})

    def test_random_ones_by_the_words(self):
        words = {}
        for seed in range(300):
            draw = random.Random(seed)
            machine, starts, bad = some_machine(draw)
            ways = [outcome(one_by_one, machine, starts, bad, way, taken=20) for way in ["first", "last"]]
            for way, found in zip(["first", "last"], ways):
                told = outcome(told_taking, machine, starts, bad, way, 20)
                word = told if told is TooMany else told[0]
                words[word] = words.get(word, 0) + 1
                if told is TooMany:
                    self.assertIs(found, TooMany)
                    continue
                self.assertEqual((found[0][0], found[1]), (told[0], told[2]))
                if told[0] == "bar":
                    self.assertEqual(found[0][1], told[1])
                    self.assertIsNone(judge_bar(machine, starts, bad, told[1]))
                    self.assertEqual(decide(machine, starts, bad), found[0])
                else:
                    self.assertIsNone(judge_run(machine, starts, bad, found[0][1]))
                self.assertIsNone(judge_log(machine, bad, found[1]))
                self.assertEqual(list_behind(machine, bad, found[1]), list(told[1]))
        self.assertGreater(min(words["run"], words["bar"]), 50)


def told_taking(machine, starts, bad, way, most):
    """The answer's word, L and the log by the words of [6.4]."""
    listed, log = least(machine, bad), []
    while True:
        if any(meets(machine, start, listed) for start in starts):
            return "run", tuple(listed), tuple(log)
        left = [one for one in listed if one not in [row[0] for row in log]]
        if not left:
            return "bar", tuple(listed), tuple(log)
        if len(log) >= most:
            raise TooMany()
        one = left[0 if way == "first" else -1]
        more = least(machine, listed + backs_of(machine, [one]))
        log.append((one, tuple(each for each in more if each not in listed)))
        listed = more


class Logs(unittest.TestCase):

    def judge(self, machine, bad, value, found):
        self.assertEqual(untouched(judge_log, machine, bad, value), found, value)

    def test_right_ones(self):
        for k in range(4):
            self.judge(UP, [("s", 2)], LOG[:k], None)
        self.judge(UP, [], (), None)
        # Any position may be taken, not the first or the last one alone.
        down = Machine(COUNT, ["p", "q", "r"], [])
        bad = [("p", 1), ("q", 1), ("r", 1)]
        for some in [[0, 1, 2], [1, 0, 2], [2, 0], [1]]:
            self.judge(down, bad, tuple((bad[k], ()) for k in some), None)

    def test_faults(self):
        for value in [None, True, 5, "log", [], {}, list(LOG), UP]:
            self.judge(UP, [("s", 2)], value, ("form",))
        for value in [None, (), 5, (("s", 1),), (("s", 1), (("s", 0),), ()), [("s", 1), (("s", 0),)], (("s", 1), [("s", 0)]),
                      (["s", 1], (("s", 0),)), (("s", True), (("s", 0),)), (("s", 1), None), (("s", 1), (("s", 0), 5)),
                      (("s", 1), (("s", False),)), (("s", 1), (("s", 0), ("s", 0))), (("s", 1), (("s", 0), ("s", 1))),
                      (("s", 1), ()), (("s", 1), (("s", 1),)), (("s", 0), ()), (("s", 2), (("s", 1),)), (("s", 5), (("s", 4),)),
                      (("t", 1), ()), (("s", 1), (("s", 0), ("t", 0)))]:
            self.judge(UP, [("s", 2)], (LOG[0], value, None), ("row", 1))
            self.judge(UP, [("s", 2)], (value, None), ("row", 0) if value != (("s", 2), (("s", 1),)) else ("row", 1))
        # Taken already, or gone out of the list.
        self.judge(UP, [("s", 2)], LOG + (LOG[2],), ("row", 3))
        self.judge(UP, [("s", 2)], LOG[:1] + (LOG[0],), ("row", 1))
        self.judge(STILL, [("p", 1)], ((("p", 1), ()), (("p", 1), ())), ("row", 1))
        self.judge(TALK, [("q", ("a",))], ((("q", ("a",)), (("p", ("b", "a")),)), (("p", ("b", "a")), (("p", ("b",)),))), ("row", 1))

    def test_too_many(self):
        some = [("s", 80), ("t", 3)]
        right_row, wrong_row = (("s", 80), ()), (("t", 3), ())
        self.assertEqual(kept(TooMany, judge_log, FALL, some, (right_row,)), {})
        self.assertEqual(kept(TooMany, judge_log, FALL, some, ((("s", 80), (("s", 5),)),)), {})
        self.judge(FALL, some, ((("s", 80), 5),), ("row", 0))
        self.judge(FALL, some, (wrong_row, right_row), ("row", 0))
        self.judge(FALL, [("s", 81)], (right_row,), ("row", 0))
        self.judge(FALL, some, [right_row], ("form",))

    def test_errors(self):
        for value in NONE + [("s", ALL)]:
            self.assertEqual(kept(BadPosition, judge_log, TILL, [("s", 0), value, value], None), {"number": 1})
            self.assertEqual(kept(BadPosition, list_behind, TILL, [("s", 0), value], ()), {"number": 1})

    def test_lists_behind(self):
        for k, listed in enumerate([[("s", 2)], [("s", 1)], [("s", 0)], [("s", 0)]]):
            self.assertEqual(untouched(list_behind, UP, [("s", 3), ("s", 2)], LOG[:k]), listed)
        self.assertEqual(untouched(list_behind, TALK, [("q", ("a",)), ("p", ("a",))], ((("q", ("a",)), (("p", ("b", "a")),)),)[:0]),
                         [("p", ("a",)), ("q", ("a",))])
        bad = [("s", 2)]
        list_behind(UP, bad, ()).append(5)
        self.assertEqual(bad, [("s", 2)])

    def test_changed_logs(self):
        faults = {}
        for seed in range(200):
            draw = random.Random(seed)
            machine, starts, bad = some_machine(draw)
            found = outcome(one_by_one, machine, starts, bad, draw.choice(["first", "last"]), taken=10)
            for _ in range(4 if found is not TooMany else 0):
                value = changed(draw, found[1])
                fault = outcome(judge_log, machine, bad, value)
                self.assertEqual(fault, outcome(told_log, machine, bad, value), value)
                word = fault if fault is TooMany or fault is None else fault[0]
                faults[word] = faults.get(word, 0) + 1
        self.assertGreater(min(faults["form"], faults["row"], faults[None]), 30)

    def test_the_least_bar_whatever_is_taken(self):
        for seed in range(150):
            draw = random.Random(seed)
            machine, _, bad = some_machine(draw)
            log, listed = (), least(machine, bad)
            while len(log) < 15:
                left = [one for one in listed if one not in [row[0] for row in log]]
                if not left:
                    break
                one = draw.choice(left)
                more = least(machine, listed + backs_of(machine, [one]))
                log += ((one, tuple(each for each in more if each not in listed)),)
                listed = more
            self.assertIsNone(judge_log(machine, bad, log))
            self.assertEqual(list_behind(machine, bad, log), listed)
            if len(log) < 15:
                self.assertEqual(listed, rounds_to(machine, bad, 16)[-1])


def told_log(machine, bad, value):
    """The first fault of a log by the words of [6.4]."""
    if not isinstance(value, tuple):
        return ("form",)
    listed, done = least(machine, bad), []
    for k, part in enumerate(value):
        if not isinstance(part, tuple) or len(part) != 2 or not right(machine, part[0]) or not isinstance(part[1], tuple):
            return ("row", k)
        if not all(right(machine, one) for one in part[1]) or list(part[1]) != least(machine, part[1]):
            return ("row", k)
        if part[0] not in listed or part[0] in done:
            return ("row", k)
        more = least(machine, listed + backs_of(machine, [part[0]]))
        if part[1] != tuple(one for one in more if one not in listed):
            return ("row", k)
        listed, done = more, done + [part[0]]
    return None


if __name__ == "__main__":
    unittest.main()
