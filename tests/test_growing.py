"""grown of point 7.4."""

import random
import unittest

from helpers import kept, untouched
from limit_words import A, ALL, B, bag, often, once, pair, row, to
from lossbars.errors import BadPosition, TooMany
from lossbars.growing import grown
from lossbars.machines import Machine
from lossbars.rounds import decide
from lossbars.shields import judge_shield, shield_of, stronger
from machine_words import AB, COUNT, LANE, NONE, STILL, TALK, TILL, lies, meets, outcome, some_machine
from shield_words import DOWN, PAIRS, covered, stairs, told_grown

UP = Machine(COUNT, ["s"], [("up", "s", ("add", 1), "s")])


class Grown(unittest.TestCase):

    def test_examples(self):
        self.assertEqual([grown(DOWN, [("s", to(2))], [("s", 3)]), grown(DOWN, [("s", to(3))], [("s", 3)]),
                          judge_shield(DOWN, [("s", ALL)], [], [("s", to(4))])],
                         [("shield", [("s", to(2))]), ("run", 0), ("start", 0)])

    def test_words(self):
        self.assertEqual(untouched(grown, UP, [("s", to(0)), ("s", to(1))], [("s", 9), ("s", 5)]), ("run", 4))
        self.assertEqual(untouched(grown, UP, (), ()), ("shield", []))
        self.assertEqual(untouched(grown, UP, [], [("s", 0)]), ("shield", []))
        self.assertEqual(untouched(grown, STILL, [("q", to(2)), ("p", ALL), ("q", to(1))], []), ("shield", [("p", ALL), ("q", to(2))]))
        self.assertEqual(untouched(grown, TALK, [("p", row())], [("q", ("a",))]), ("run", 4))
        self.assertEqual(grown(TALK, [("q", row(often(B)))], [("p", ()), ("q", ("a",))]), ("shield", [("q", row(often(B)))]))
        go = Machine(COUNT, ["p", "q"], [("go", "p", ("take", 1), "q"), ("back", "q", ("stay",), "p")])
        self.assertEqual(grown(go, [("p", to(2))], [("p", 3), ("q", 2)]), ("shield", [("p", to(2)), ("q", to(1))]))

    def test_the_list_that_is_told_is_a_new_one(self):
        starts = [("s", to(2))]
        found = grown(DOWN, starts, [])
        found[1].append(5)
        self.assertEqual((starts, grown(DOWN, starts, [])[1]), ([("s", to(2))], [("s", to(2))]))

    def test_the_cap_of_rounds(self):
        start = [("s", to(0))]
        self.assertEqual(grown(UP, start, [("s", 5)], rounds=5), ("run", 5))
        self.assertEqual(kept(TooMany, grown, UP, start, [("s", 5)], rounds=4), {})
        self.assertEqual(grown(UP, start, [("s", 16)]), ("run", 16))
        self.assertEqual(kept(TooMany, grown, UP, start, [("s", 17)]), {})
        step = Machine(COUNT, ["p", "q", "r"], [("one", "p", ("stay",), "q"), ("two", "q", ("stay",), "r")])
        self.assertEqual(grown(step, [("p", to(0))], [], rounds=3)[0], "shield")
        self.assertEqual(kept(TooMany, grown, step, [("p", to(0))], [], rounds=2), {})
        self.assertEqual(grown(STILL, [], [], rounds=1), ("shield", []))

    def test_the_cap_of_limits(self):
        machine = Machine(PAIRS, ["s", "t"], [])
        many = stairs(24) + stairs(24, "t")
        self.assertEqual(grown(machine, many, []), ("shield", many))
        self.assertEqual(kept(TooMany, grown, machine, stairs(25, "t"), []), {})
        # What is bad goes ahead of what is too many.
        self.assertEqual(grown(machine, stairs(25), [("s", (3, 9))]), ("run", 0))
        self.assertEqual(grown(machine, stairs(3), [], limits=3), ("shield", stairs(3)))
        self.assertEqual(kept(TooMany, grown, machine, stairs(3), [], limits=2), {})
        wide = Machine(PAIRS, ["s"], [("go", "s", ("or", ("first", ("add", 1)), ("second", ("add", 1))), "s")])
        self.assertEqual(grown(wide, stairs(1), [("s", (0, 2))], limits=2), ("run", 2))
        self.assertEqual(grown(wide, stairs(1), [("s", (0, 2))], limits=3), ("run", 2))
        self.assertEqual(kept(TooMany, grown, wide, stairs(1), [("s", (0, 3))], limits=2), {})
        self.assertEqual(kept(TooMany, grown, wide, stairs(1), [("s", (0, 24))], rounds=16), {})

    def test_forth_may_raise_it(self):
        rise = Machine(COUNT, ["s"], [("rise", "s", ("add", 20), "s")])
        self.assertEqual(grown(rise, [("s", to(19))], [("s", 99)]), ("run", 4))
        self.assertEqual(kept(TooMany, grown, rise, [("s", to(20))], [("s", 99)], rounds=4), {})
        self.assertEqual(grown(rise, [("s", to(99))], [("s", 99)]), ("run", 0))
        self.assertEqual(kept(TooMany, grown, rise, [("s", to(99))], []), {})
        self.assertEqual(grown(rise, [("s", ALL)], []), ("shield", [("s", ALL)]))
        # Of what is in the last list alone nothing is asked.
        go = Machine(COUNT, ["s", "t"], [("rise", "s", ("add", 20), "t"), ("fall", "t", ("add", 1), "t")])
        self.assertEqual(grown(go, [("s", to(79))], [("t", 99)]), ("run", 1))
        self.assertEqual(kept(TooMany, grown, go, [("s", to(79))], []), {})
        heaps = Machine(("heap", AB), ["s"], [("put", "s", ("put", "a"), "s")])
        self.assertEqual(kept(TooMany, grown, heaps, [("s", bag([], [B]))], []), {})
        self.assertEqual(grown(heaps, [("s", bag([], [B]))], [("s", ("a",) * 8)]), ("run", 8))
        lanes = Machine(LANE, ["s"], [("send", "s", ("send", "a"), "s")])
        self.assertEqual(grown(lanes, [("s", row(often(A)))], []), ("shield", [("s", row(often(A)))]))
        self.assertEqual(kept(TooMany, grown, lanes, [("s", row(once(B)))], []), {})

    def test_wrong_ones(self):
        for value in NONE + [("s", 1)]:
            self.assertEqual(kept(BadPosition, grown, TILL, [("s", ALL), value, value], [value]), {"number": 1})
        for value in NONE + [("s", ALL)]:
            self.assertEqual(kept(BadPosition, grown, TILL, [("s", ALL)], [("s", 0), ("s", 0), value]), {"number": 2})
        machine = Machine(PAIRS, ["s"], [])
        self.assertEqual(kept(BadPosition, grown, machine, stairs(25) + [("s", pair(ALL, 5))], []), {"number": 25})

    def test_random_caps_by_the_words(self):
        words = {}
        for seed in range(500):
            draw = random.Random(seed)
            machine, starts, bad = some_machine(draw)
            caps = {"limits": draw.choice([1, 2, 3, 24]), "rounds": draw.choice([1, 2, 3, 16])}
            told = outcome(told_grown, machine, starts, bad, **caps)
            self.assertEqual(outcome(grown, machine, starts, bad, **caps), told)
            word = told if told is TooMany else told[0]
            words[word] = words.get(word, 0) + 1
        self.assertGreater(min(words.values()), 40)

    def test_as_decide(self):
        words = {"run": 0, "shield": 0}
        for seed in range(500):
            draw = random.Random(seed)
            machine, starts, bad = some_machine(draw)
            found, answer = outcome(grown, machine, starts, bad), outcome(decide, machine, starts, bad)
            if TooMany in (found, answer):
                continue
            words[found[0]] += 1
            if found[0] == "run":
                self.assertEqual((answer[0], len(answer[1][2])), found)
            else:
                self.assertEqual(answer[0], "bar")
                self.assertIsNone(judge_shield(machine, starts, bad, found[1]))
                self.least(machine, starts, bad, found[1], answer[1])
        self.assertGreater(min(words.values()), 60)

    def least(self, machine, starts, bad, shield, bar):
        """The least shield lies within each other one, so within that of each bar that bars the starts."""
        self.assertFalse(any(meets(machine, limit, bar) for limit in shield))
        other = outcome(shield_of, machine, bar)
        if other is not TooMany:
            self.assertTrue(all(covered(machine, limit, other) for limit in shield))
        self.assertFalse(any(lies(machine, limit, position) for limit in shield for position in bad))
        self.assertTrue(stronger(machine, bad, bar))


if __name__ == "__main__":
    unittest.main()
