"""Points 6.1 and 6.3: rounds, decide, met."""

import random
import unittest

from helpers import kept, universe, untouched
from limit_words import A, ALL, B, often, once, row, to
from machine_words import (
    AB,
    COUNT,
    LANE,
    NONE,
    STILL,
    TALK,
    TILL,
    backs_of,
    holds_some,
    least,
    lies,
    meets,
    outcome,
    reach,
    some_machine,
    told_rounds,
)
from lossbars.bars import judge_bar
from lossbars.errors import BadPosition, TooMany
from lossbars.machines import Machine, starts_at, without
from lossbars.rounds import decide, met, rounds_to
from lossbars.runs import judge_run

PAIRS = ("both", COUNT, COUNT)
UP = Machine(COUNT, ["s"], [("up", "s", ("add", 1), "s")])


def edge(many):
    """So many positions none of which holds another one."""
    return [("s", (k, many - 1 - k)) for k in range(many)]


class Rounds(unittest.TestCase):

    def test_examples(self):
        self.assertEqual(rounds_to(TALK, [("q", ("a",))], 2),
                         [[("q", ("a",))], [("p", ("b", "a")), ("q", ("a",))],
                          [("p", ("a", "a")), ("p", ("b",)), ("q", ("a",))]])
        self.assertEqual(decide(without(TALK, ["spoil"]), starts_at(TALK, [("p", ())]), [("q", ("a",))]),
                         ("bar", (("p", ("b",)), ("q", ("a",)))))
        self.assertEqual(met(TALK, [("p", ("row", (("often", (("is", "a"),)),)))], [("p", ("a", "a")), ("p", ("b",))]),
                         [(0, ("p", ("a", "a")))])

    def test_least_lists(self):
        some = [("q", ("a", "b")), ("q", ("b",)), ("p", ("b", "a")), ("q", ("b",))]
        self.assertEqual(untouched(rounds_to, TALK, some, 0), [[("p", ("b", "a")), ("q", ("b",))]])
        self.assertEqual(untouched(rounds_to, TALK, tuple(some), 1),
                         [[("p", ("b", "a")), ("q", ("b",))], [("p", ("a", "a")), ("p", ("b",)), ("q", ("b",))]])
        self.assertEqual(untouched(rounds_to, TALK, [], 2), [[], [], []])
        self.assertEqual(untouched(rounds_to, STILL, [("q", 3), ("p", 5)], 1), [[("p", 5), ("q", 3)]] * 2)

    def test_k_of_16_and_lists_of_their_own(self):
        found = untouched(rounds_to, UP, [("s", 20)], 16)
        self.assertEqual(found, [[("s", 20 - k)] for k in range(17)])
        still = rounds_to(UP, [("s", 2)], 16)
        self.assertEqual(still, [[("s", 2)], [("s", 1)]] + [[("s", 0)]] * 15)
        self.assertEqual(len({id(listed) for listed in still}), 17)
        bad = [("s", 2)]
        rounds_to(UP, bad, 0)[0].append(5)
        self.assertEqual(bad, [("s", 2)])

    def test_the_cap_of_positions(self):
        machine = Machine(PAIRS, ["s"], [])
        self.assertEqual(rounds_to(machine, edge(24), 0), [edge(24)])
        self.assertEqual(rounds_to(machine, edge(24), 2), [edge(24)] * 3)
        self.assertEqual(kept(TooMany, rounds_to, machine, edge(25), 0), {})
        self.assertEqual(rounds_to(machine, edge(5) + [("s", (4, 4))], 1, positions=5), [edge(5)] * 2)
        self.assertEqual(kept(TooMany, rounds_to, machine, edge(5), 1, positions=4), {})
        # Each list that is told counts, none behind it.
        wide = Machine(PAIRS, ["s"], [("go", "s", ("or", ("first", ("add", 1)), ("second", ("add", 1))), "s")])
        self.assertEqual([len(listed) for listed in rounds_to(wide, [("s", (3, 3))], 2)], [1, 2, 3])
        self.assertEqual(len(rounds_to(wide, [("s", (3, 3))], 2, positions=3)[2]), 3)
        self.assertEqual(kept(TooMany, rounds_to, wide, [("s", (3, 3))], 2, positions=2), {})
        self.assertEqual(len(rounds_to(wide, [("s", (3, 3))], 1, positions=2)[1]), 2)

    def test_the_backs_count_too(self):
        # What is back of the position in p are three values, though none of them is in a list.
        machine = Machine(LANE, ["p", "q"], [("go", "q", ("need", ("a",)), "p")])
        bad = [("p", ("b", "b")), ("q", ())]
        self.assertEqual(rounds_to(machine, bad, 1, positions=3), [bad, bad])
        self.assertEqual(rounds_to(machine, bad, 0, positions=2), [bad])
        self.assertEqual(kept(TooMany, rounds_to, machine, bad, 1, positions=2), {})
        # Only those of rules that end there.
        self.assertEqual(rounds_to(machine, [("q", ("b", "b"))], 3, positions=1), [[("q", ("b", "b"))]] * 4)

    def test_back_may_raise_it(self):
        fall = Machine(COUNT, ["s", "t"], [("fall", "s", ("take", 20), "s"), ("go", "s", ("set", 9), "t")])
        self.assertEqual(rounds_to(fall, [("s", 80)], 0), [[("s", 80)]])
        self.assertEqual(kept(TooMany, rounds_to, fall, [("s", 80)], 1), {})
        # The position at 60 is new in the last list alone: what is back of it is not asked.
        rise = Machine(COUNT, ["s", "t"], [("rise", "s", ("add", 20), "t"), ("fall", "s", ("take", 20), "s")])
        self.assertEqual(rounds_to(rise, [("t", 99)], 1), [[("t", 99)], [("s", 79), ("t", 99)]])
        self.assertEqual(rounds_to(rise, [("t", 99)], 2)[2], [("s", 79), ("t", 99)])
        high = Machine(COUNT, ["s", "t"], [("rise", "s", ("add", 1), "t"), ("fall", "s", ("take", 20), "s")])
        self.assertEqual(rounds_to(high, [("t", 99)], 1), [[("t", 99)], [("s", 98), ("t", 99)]])
        self.assertEqual(kept(TooMany, rounds_to, high, [("t", 99)], 2), {})

    def test_wide_positions(self):
        long = ("a",) * 7
        self.assertEqual(rounds_to(TALK, [("q", long)], 1), [[("q", long)], [("p", ("b",) + long), ("q", long)]])
        self.assertEqual(kept(TooMany, rounds_to, TALK, [("q", ("a",) * 8)], 1), {})

    def test_wrong_ones(self):
        for value in NONE:
            self.assertEqual(kept(BadPosition, rounds_to, TILL, [("s", 1), value, value], 2), {"number": 1})
        self.assertEqual(kept(BadPosition, rounds_to, TILL, [("s", 99), ("s", 100)], 2), {"number": 1})

    def test_random_ones_by_the_words(self):
        for seed in range(250):
            draw = random.Random(seed)
            machine, _, bad = some_machine(draw)
            most = draw.choice([1, 2, 3, 24])
            self.assertEqual(outcome(rounds_to, machine, bad, 3, positions=most), outcome(told_rounds, machine, bad, 3, most))

    def test_by_plain_search(self):
        asked = {}
        for sort, number, length in [(COUNT, 9, 0), (LANE, 0, 4), (("heap", AB), 0, 4), (("both", COUNT, AB), 6, 0),
                                     (("heap", COUNT), 3, 2), (("either", LANE, COUNT), 4, 3)]:
            for seed in range(40):
                draw = random.Random(seed)
                machine, _, bad = some_machine(draw, sort=sort)
                each = [(state, v) for state in machine.states() for v in universe(sort, number, length)]
                some = draw.sample(each, min(30, len(each)))
                for k, listed in enumerate(rounds_to(machine, bad, 3)):
                    for one, there in zip(some, reach(machine, some, bad, k)):
                        self.assertIs(holds_some(machine, one, listed), there)
                        asked[there] = asked.get(there, 0) + 1
        self.assertGreater(min(asked[True], asked[False]), 2000)


class Decide(unittest.TestCase):

    def test_runs(self):
        for starts, bad, rows in [([("s", to(0))], [("s", 0)], 0), ([("s", to(3))], [("s", 5)], 2), ([("s", ALL)], [("s", 60)], 0),
                                  ([("s", to(1)), ("s", to(7))], [("s", 9), ("s", 20)], 2), ([("s", to(4))], [("s", 20)], 16)]:
            word, run = untouched(decide, UP, starts, bad)
            self.assertEqual((word, len(run[2])), ("run", rows))
            self.assertIsNone(judge_run(UP, starts, bad, run))
        found = decide(TALK, [("q", row()), ("p", row(often(A)))], [("q", ("a", "a"))])
        self.assertEqual((found[0], found[1][0], len(found[1][2])), ("run", 1, 2))
        self.assertIsNone(judge_run(TALK, [("q", row()), ("p", row(often(A)))], [("q", ("a", "a"))], found[1]))

    def test_bars(self):
        for machine, starts, bad, bar in [
                (TILL, [("s", ALL)], [], ()), (TILL, [], [("s", 4)], (("s", 0),)), (UP, [], [("s", 4)], (("s", 0),)),
                (STILL, [("p", ALL), ("q", to(2))], [("q", 3), ("q", 5)], (("q", 3),)),
                (TALK, [("q", row(often(B)))], [("q", ("a",)), ("q", ("b", "a"))], (("p", ()), ("q", ("a",))))]:
            self.assertEqual(untouched(decide, machine, starts, bad), ("bar", bar))
            self.assertIsNone(judge_bar(machine, starts, bad, bar))

    def test_the_cap_of_rounds(self):
        start, bad = [("s", to(0))], [("s", 5)]
        self.assertEqual(decide(UP, start, bad, rounds=5)[0], "run")
        self.assertEqual(kept(TooMany, decide, UP, start, bad, rounds=4), {})
        self.assertEqual(decide(UP, [], [("s", 3)], rounds=4), ("bar", (("s", 0),)))
        self.assertEqual(kept(TooMany, decide, UP, [], [("s", 3)], rounds=3), {})
        self.assertEqual(decide(STILL, [], [("p", 3)], rounds=1), ("bar", (("p", 3),)))
        self.assertEqual(decide(UP, start, [("s", 16)])[0], "run")
        self.assertEqual(kept(TooMany, decide, UP, start, [("s", 17)]), {})
        self.assertEqual(decide(UP, [], [("s", 15)]), ("bar", (("s", 0),)))
        self.assertEqual(kept(TooMany, decide, UP, [], [("s", 16)]), {})

    def test_the_cap_of_positions(self):
        machine = Machine(PAIRS, ["s"], [])
        none, all_of_it = [("s", ("pair", to(0), to(0)))], [("s", ("pair", ALL, to(0)))]
        self.assertEqual(decide(machine, none, edge(24)), ("bar", tuple(edge(24))))
        self.assertEqual(kept(TooMany, decide, machine, none, edge(25)), {})
        # A start that meets something bad goes ahead of what is too many.
        self.assertEqual(decide(machine, all_of_it, edge(25)), ("run", (0, ("s", (24, 0)), ())))
        self.assertEqual(decide(machine, none, edge(3), positions=3), ("bar", tuple(edge(3))))
        self.assertEqual(kept(TooMany, decide, machine, none, edge(3), positions=2), {})
        wide = Machine(PAIRS, ["s"], [("go", "s", ("or", ("first", ("add", 1)), ("second", ("add", 1))), "s")])
        near = [("s", ("pair", to(1), to(3)))]
        self.assertEqual(decide(wide, near, [("s", (3, 3))], positions=2)[0], "run")
        self.assertEqual(len(decide(wide, near, [("s", (3, 3))], positions=2)[1][2]), 2)
        self.assertEqual(kept(TooMany, decide, wide, none, [("s", (3, 3))], positions=3), {})

    def test_the_backs_count_too(self):
        machine = Machine(LANE, ["p", "q"], [("go", "q", ("need", ("a",)), "p")])
        bad = [("p", ("b", "b")), ("q", ())]
        self.assertEqual(decide(machine, [], bad, positions=3), ("bar", tuple(bad)))
        self.assertEqual(kept(TooMany, decide, machine, [], bad, positions=2), {})
        self.assertEqual(decide(machine, [("q", row())], bad, positions=2), ("run", (0, ("q", ()), ())))
        # A run that would be found behind them, too.
        only = [("q", row(once(A), once(B), once(B)))]
        self.assertEqual(decide(machine, only, bad[:1], positions=3)[0], "run")
        self.assertEqual(kept(TooMany, decide, machine, only, bad[:1], positions=2), {})
        fall = Machine(COUNT, ["s"], [("fall", "s", ("take", 20), "s"), ("rise", "s", ("add", 5), "s")])
        self.assertEqual(kept(TooMany, decide, fall, [("s", to(75))], [("s", 80)]), {})
        self.assertEqual(decide(fall, [("s", to(80))], [("s", 80)])[0], "run")

    def test_wrong_ones(self):
        for value in NONE + [("s", 1)]:
            self.assertEqual(kept(BadPosition, decide, TILL, [("s", ALL), value, value], [value]), {"number": 1})
        for value in NONE + [("s", ALL)]:
            self.assertEqual(kept(BadPosition, decide, TILL, [("s", ALL)], [("s", 0), ("s", 0), value]), {"number": 2})

    def test_random_ones(self):
        words = {}
        for seed in range(300):
            draw = random.Random(seed)
            machine, starts, bad = some_machine(draw)
            found = outcome(decide, machine, starts, bad)
            word = found if found is TooMany else found[0]
            words[word] = words.get(word, 0) + 1
            if word == "run":
                self.assertIsNone(judge_run(machine, starts, bad, found[1]))
                listed = rounds_to(machine, bad, len(found[1][2]))
                for k, each in enumerate(listed):
                    self.assertIs(any(meets(machine, start, each) for start in starts), k == len(listed) - 1)
            elif word == "bar":
                self.assertIsNone(judge_bar(machine, starts, bad, found[1]))
                self.assertEqual(found[1], tuple(rounds_to(machine, bad, 16)[-1]))
                # It is the least one: each of its positions has a path to something bad.
                self.assertEqual(reach(machine, found[1], bad, 6), [True] * len(found[1]))
        self.assertGreater(min(words["run"], words["bar"]), 50)


    def test_random_caps_by_the_words(self):
        words = {}
        for seed in range(500):
            draw = random.Random(seed)
            machine, starts, bad = some_machine(draw)
            caps = {"positions": draw.choice([1, 2, 3, 24]), "rounds": draw.choice([1, 2, 3, 16])}
            found, told = outcome(decide, machine, starts, bad, **caps), outcome(told_decision, machine, starts, bad, **caps)
            words[told if told is TooMany else told[0]] = words.get(told if told is TooMany else told[0], 0) + 1
            if told is not TooMany and told[0] == "run":
                self.assertEqual((found[0], len(found[1][2])), told)
            else:
                self.assertEqual(found, told)
        self.assertGreater(min(words.values()), 20)


def told_decision(machine, starts, bad, *, positions, rounds):
    """What decide tells by the words of [6.3], of a run how many rows it has."""
    listed, k = [least(machine, bad)], 0
    while True:
        if any(meets(machine, start, listed[k]) for start in starts):
            return "run", k
        if len(listed[k]) > positions:
            raise TooMany()
        if k > 0 and listed[k] == listed[k - 1]:
            return "bar", tuple(listed[k])
        if k == rounds:
            raise TooMany()
        new = [one for one in listed[k] if k == 0 or one not in listed[k - 1]]
        listed.append(least(machine, listed[k] + backs_of(machine, new, positions)))
        k += 1


class Met(unittest.TestCase):

    def test_words(self):
        starts = [("s", to(5)), ("s", to(2)), ("s", to(5))]
        some = [("s", 4), ("s", 1), ("s", 6), ("s", 1)]
        self.assertEqual(untouched(met, TILL, starts, some),
                         [(0, ("s", 4)), (0, ("s", 1)), (0, ("s", 1)), (1, ("s", 1)), (1, ("s", 1)),
                          (2, ("s", 4)), (2, ("s", 1)), (2, ("s", 1))])
        self.assertEqual(untouched(met, TILL, [], some), [])
        self.assertEqual(untouched(met, TILL, starts, ()), [])
        self.assertEqual(met(TALK, [("p", row(often(A)))], [("q", ("a",)), ("p", ())]), [(0, ("p", ()))])

    def test_wrong_ones(self):
        for value in NONE + [("s", 1)]:
            self.assertEqual(kept(BadPosition, met, TILL, [("s", ALL), value], [value]), {"number": 1})
        for value in NONE + [("s", ALL)]:
            self.assertEqual(kept(BadPosition, met, TILL, [("s", ALL)], [("s", 0), ("s", 0), value]), {"number": 2})

    def test_random_ones(self):
        for seed in range(100):
            draw = random.Random(seed)
            machine, starts, bad = some_machine(draw)
            self.assertEqual(untouched(met, machine, starts, bad),
                             [(k, one) for k, start in enumerate(starts) for one in bad if lies(machine, start, one)])


if __name__ == "__main__":
    unittest.main()
