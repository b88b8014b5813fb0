"""Points 7.1 to 7.3, and thinned of 7.4: shields and bars."""

import random
import unittest

from helpers import kept, some_limit, some_value, universe, untouched
from limit_words import A, ALL, B, bag, often, once, pair, row, to
from lossbars.bars import judge_bar
from lossbars.errors import BadPosition, TooMany
from lossbars.growing import grown
from lossbars.leasts import common
from lossbars.limits import everything, limit_list, shaped
from lossbars.machines import Machine, joined, least_positions
from lossbars.outsides import least_outside, outside
from lossbars.rounds import decide
from lossbars.shields import (
    bar_of,
    bars_common,
    bars_together,
    judge_shield,
    shield_of,
    shields_common,
    stronger,
    thinned,
)
from machine_words import (
    AB,
    COUNT,
    LANE,
    NONE,
    STILL,
    TALK,
    TILL,
    backs_of,
    changed,
    holds_some,
    lies,
    outcome,
    some_machine,
)
from shield_words import DOWN, PAIRS, PAPERS, edge, stairs, told_joined, told_shield, told_thinned

NINE = ("both", ("mark", ("a", "b", "c")), ("mark", ("a", "b", "c")))
HEAP = ("heap", AB)
SMALL = [(COUNT, 9, 0), (LANE, 0, 4), (HEAP, 0, 4), (PAIRS, 5, 0), (("heap", COUNT), 3, 2), (("either", LANE, COUNT), 4, 3),
         (NINE, 0, 0), (("lane", PAIRS), 1, 2)]


class ShieldOf(unittest.TestCase):

    def test_examples(self):
        self.assertEqual([shield_of(DOWN, [("s", 3)]), bar_of(DOWN, [("s", to(2))]),
                          judge_shield(DOWN, [("s", to(2))], [("s", 3)], [("s", to(2))])],
                         [[("s", to(2))], (("s", 3),), None])

    def test_state_by_state(self):
        self.assertEqual(untouched(shield_of, STILL, [("q", 4), ("q", 7)]), [("p", ALL), ("q", to(3))])
        self.assertEqual(untouched(shield_of, STILL, (("q", 0), ("p", 1))), [("p", to(0))])
        self.assertEqual(untouched(bar_of, STILL, [("q", to(4)), ("q", to(7))]), (("p", 0), ("q", 8)))
        self.assertEqual(untouched(bar_of, STILL, (("q", ALL), ("p", to(1)))), (("p", 2),))
        self.assertEqual(shield_of(TALK, [("p", ("a", "b")), ("q", ())]),
                         [("p", row(often(B), often(A)))])

    def test_empty_lists(self):
        self.assertEqual(untouched(shield_of, STILL, []), [("p", ALL), ("q", ALL)])
        self.assertEqual(untouched(bar_of, STILL, []), (("p", 0), ("q", 0)))
        nine = Machine(NINE, ["p", "q"], [])
        # Of a state without one everything is told, whatever the cap.
        self.assertEqual(shield_of(nine, [], limits=1), [(s, limit) for s in "pq" for limit in everything(NINE)])
        self.assertEqual(len(bar_of(nine, [], values=1)), 18)
        self.assertEqual(shield_of(Machine(COUNT, [], []), []), [])
        self.assertEqual(bar_of(Machine(COUNT, [], []), []), ())
        whole = [(state, limit) for state in "pq" for limit in everything(NINE)]
        self.assertEqual(bar_of(nine, whole, values=9), ())

    def test_the_cap_of_limits(self):
        machine = Machine(PAIRS, ["s", "t"], [])
        self.assertEqual(len(shield_of(machine, edge(25))), 24 + 1)
        self.assertEqual(len(outside(PAIRS, [value for _, value in edge(25)], limits=24)), 24)
        self.assertEqual(kept(TooMany, shield_of, machine, edge(26)), {})
        self.assertEqual(kept(TooMany, shield_of, machine, edge(26, "t")), {})
        self.assertEqual(len(shield_of(machine, edge(5), limits=4)), 5)
        self.assertEqual(kept(TooMany, shield_of, machine, edge(5), limits=3), {})
        # Each state has the cap of its own, and the least list of what is handed in is looked at.
        self.assertEqual(len(shield_of(machine, edge(5) + edge(5, "t") + [("s", (9, 9))] * 3, limits=4)), 8)

    def test_the_cap_of_values(self):
        machine = Machine(PAIRS, ["s", "t"], [])
        self.assertEqual(len(bar_of(machine, stairs(23))), 24 + 1)
        self.assertEqual(len(bar_of(machine, stairs(23) + stairs(23, "t"))), 48)
        self.assertEqual(kept(TooMany, bar_of, machine, stairs(24)), {})
        self.assertEqual(kept(TooMany, bar_of, machine, stairs(24, "t")), {})
        self.assertEqual(len(bar_of(machine, stairs(3), values=4)), 5)
        self.assertEqual(kept(TooMany, bar_of, machine, stairs(3), values=3), {})
        # What lies within another limit is not looked at.
        self.assertEqual(bar_of(machine, [("s", pair(to(0), to(0)))] * 40 + [("s", pair(ALL, ALL))], values=1), (("t", (0, 0)),))

    def test_what_passes_the_bounds(self):
        lanes = Machine(LANE, ["p"], [])
        self.assertEqual(bar_of(lanes, [("p", row(*[once(A)] * 7))]), (("p", ("a",) * 8), ("p", ("b",))))
        self.assertEqual(kept(TooMany, bar_of, lanes, [("p", row(*[once(A)] * 8))]), {})
        wide = Machine(COUNT, ["s"], [])
        self.assertEqual(bar_of(wide, [("s", to(98))]), (("s", 99),))
        self.assertEqual(kept(TooMany, bar_of, wide, [("s", to(99))]), {})
        self.assertEqual(shield_of(wide, [("s", 99)]), [("s", to(98))])
        self.assertEqual(len(shield_of(lanes, [("p", ("a",) * 8)])[0][1][1]), 15)

    def test_wrong_ones(self):
        for value in NONE + [("s", ALL), ("p", row())]:
            self.assertEqual(kept(BadPosition, shield_of, TILL, [("s", 1), value, value]), {"number": 1})
        for value in NONE + [("s", 1), ("p", ())]:
            self.assertEqual(kept(BadPosition, bar_of, TILL, [("s", ALL), ("s", to(1)), value, value]), {"number": 2})
        self.assertEqual(kept(BadPosition, shield_of, Machine(PAIRS, ["s"], []), edge(26) + [5]), {"number": 26})
        self.assertEqual(kept(BadPosition, bar_of, Machine(PAIRS, ["s"], []), stairs(24) + [5]), {"number": 24})

    def test_what_lies_inside(self):
        looked = 0
        for sort, number, length in SMALL:
            for seed in range(25):
                draw = random.Random(seed)
                machine, limits, bar = some_machine(draw, sort=sort)
                each = [(state, v) for state in machine.states() for v in universe(sort, number, length)]
                some = draw.sample(each, min(40, len(each)))
                shield = outcome(shield_of, machine, bar)
                if shield is not TooMany:
                    self.assertEqual(shield, joined(machine, shield))
                    self.assertEqual(outcome(bar_of, machine, shield), tuple(least_positions(machine, bar)))
                    for one in some:
                        self.assertIs(any(lies(machine, limit, one) for limit in shield), not holds_some(machine, one, bar))
                        looked += 1
                found = outcome(bar_of, machine, limits)
                if found is not TooMany:
                    self.assertEqual(list(found), least_positions(machine, found))
                    self.assertEqual(outcome(shield_of, machine, found), joined(machine, limits))
                    for one in some:
                        self.assertIs(holds_some(machine, one, found), not any(lies(machine, limit, one) for limit in limits))
                        looked += 1
        self.assertGreater(looked, 5000)

    def test_random_caps_by_the_words(self):
        for seed in range(150):
            draw = random.Random(seed)
            machine, limits, bar = some_machine(draw)
            cap = draw.choice([1, 2, 3, 24])
            self.assertEqual(outcome(shield_of, machine, bar, limits=cap), outcome(told_shield_of, machine, bar, cap))
            self.assertEqual(outcome(bar_of, machine, limits, values=cap), outcome(told_bar_of, machine, limits, cap))


def told_shield_of(machine, bar, cap):
    listed = least_positions(machine, bar)
    return [(state, limit) for state in machine.states()
            for limit in outside(machine.kind, [v for s, v in listed if s == state], limits=cap)]


def told_bar_of(machine, limits, cap):
    return tuple((state, v) for state in machine.states()
                 for v in least_outside(machine.kind, limit_list(machine.kind, [one for s, one in limits if s == state]), values=cap))


class JudgeShield(unittest.TestCase):

    def judged(self, machine, starts, bad, value):
        found = untouched(judge_shield, machine, starts, bad, value)
        self.assertEqual(found, told_shield(machine, starts, bad, value))
        return found

    def test_right_ones(self):
        for value in ([("s", to(2))], (("s", to(2)),), [("s", to(0)), ("s", to(2)), ("s", to(1))]):
            self.assertIsNone(self.judged(DOWN, [("s", to(2)), ("s", to(1))], [("s", 3), ("s", 5)], value))
        self.assertIsNone(self.judged(TILL, [("s", ALL)], [], [("s", ALL)]))
        for value in ([], ()):
            self.assertIsNone(self.judged(TILL, [], [("s", 0)], value))
        self.assertIsNone(judge_shield(DOWN, [], [], [("s", to(99))]))

    def test_form(self):
        for value in PAPERS:
            if value not in ((), []):
                self.assertEqual(judge_shield(DOWN, [], [], value), ("form",))
        self.assertEqual(self.judged(DOWN, [], [], [("s", to(2)), ("s", 2)]), ("form",))
        self.assertEqual(judge_shield(TALK, [], [], [("p", row(often(B, A)))]), ("form",))
        self.assertEqual(judge_shield(TALK, [], [], [("p", row(often(A), often(A, B)))]), ("form",))

    def test_each_fault(self):
        starts, bad = [("s", to(1)), ("s", to(4)), ("s", to(5))], [("s", 9), ("s", 6), ("s", 7)]
        self.assertEqual(self.judged(DOWN, starts, bad, [("s", to(3))]), ("start", 1))
        self.assertEqual(self.judged(DOWN, starts, bad, [("s", to(7))]), ("bad", 1))
        self.assertIsNone(self.judged(DOWN, starts, bad, [("s", to(5))]))
        self.assertEqual(self.judged(TILL, starts, bad, [("s", to(2)), ("s", to(5))]), ("forth", "up", 1))
        go = Machine(COUNT, ["p", "q"], [("one", "p", ("add", 1), "q"), ("two", "q", ("take", 1), "p")])
        self.assertEqual(self.judged(go, [], [], [("q", to(1)), ("p", to(0)), ("p", to(1))]), ("forth", "one", 2))
        self.assertEqual(self.judged(go, [], [], [("q", to(3)), ("p", to(1)), ("p", to(0))]), ("forth", "two", 0))
        self.assertIsNone(self.judged(go, [], [], [("q", to(2)), ("p", to(1)), ("p", to(0))]))
        # Starts go ahead of what is bad, that ahead of what is forth.
        self.assertEqual(self.judged(TILL, [("s", ALL)], [("s", 1)], [("s", to(5))]), ("start", 0))
        self.assertEqual(self.judged(TILL, [], [("s", 1)], [("s", to(5))]), ("bad", 0))

    def test_too_many_stands_where_forth_raises_it(self):
        machine = Machine(COUNT, ["s", "t"], [("go", "t", ("add", 1), "t"), ("rise", "s", ("add", 20), "t")])
        high = [("s", to(90)), ("t", ALL)]
        self.assertEqual(kept(TooMany, judge_shield, machine, [], [], high), {})
        self.assertIsNone(judge_shield(machine, [], [], [("s", to(79)), ("t", ALL)]))
        self.assertEqual(judge_shield(machine, [], [], high + [5]), ("form",))
        self.assertEqual(judge_shield(machine, [("s", ALL)], [], high), ("start", 0))
        self.assertEqual(judge_shield(machine, [], [("t", 5)], high), ("bad", 0))
        # Rules are looked at in order, for each one the limits.
        self.assertEqual(judge_shield(machine, [], [], [("s", to(90)), ("t", to(3))]), ("forth", "go", 1))
        both = [("s", to(4)), ("s", to(90)), ("t", to(99))]
        self.assertEqual(kept(TooMany, judge_shield, machine, [], [], both), {})
        rise = Machine(COUNT, ["s", "t"], [("rise", "s", ("add", 20), "t"), ("go", "t", ("add", 1), "t")])
        self.assertEqual(judge_shield(rise, [], [], [("s", to(4)), ("s", to(90)), ("t", to(3))]), ("forth", "rise", 0))
        self.assertEqual(kept(TooMany, judge_shield, rise, [], [], [("s", to(90)), ("s", to(4)), ("t", to(3))]), {})

    def test_wrong_ones(self):
        for value in NONE + [("s", 1)]:
            self.assertEqual(kept(BadPosition, judge_shield, TILL, [("s", ALL), value, value], [value], 5), {"number": 1})
        for value in NONE + [("s", ALL)]:
            self.assertEqual(kept(BadPosition, judge_shield, TILL, [("s", ALL)], [("s", 0), ("s", 0), value], None), {"number": 2})

    def test_changed_papers(self):
        words = {}
        for seed in range(600):
            draw = random.Random(seed)
            machine, starts, bad = some_machine(draw)
            found = outcome(grown, machine, starts, bad)
            if found is TooMany or found[0] == "run":
                continue
            paper = found[1] + draw.sample(found[1], min(1, len(found[1])))
            self.assertIsNone(judge_shield(machine, starts, bad, paper))
            for _ in range(6):
                value = changed(draw, tuple(paper))
                told = outcome(told_shield, machine, starts, bad, value)
                self.assertEqual(outcome(judge_shield, machine, starts, bad, value), told)
                word = told if told is None or told is TooMany else told[0]
                words[word] = words.get(word, 0) + 1
        self.assertGreater(min(words[None], words["form"], words["start"]), 20)

    def test_random_lists_by_the_words(self):
        words = {}
        for seed in range(1500):
            draw = random.Random(seed)
            machine, starts, bad = some_machine(draw)
            value = [(draw.choice(machine.states()), shaped(machine.kind, some_limit(draw, machine.kind, 3, 2)))
                     for _ in range(draw.randint(0, 4))]
            if draw.random() < 0.5:
                value, starts = value + starts[1:], starts[1:]
            told = outcome(told_shield, machine, starts[:draw.randint(0, 2)], bad[:draw.randint(0, 1)], value)
            word = told if told is None or told is TooMany else told[0]
            words[word] = words.get(word, 0) + 1
        self.assertGreater(min(words[each] for each in (None, "start", "bad", "forth")), 40)

    def test_closed_forth_exactly_if_closed_back(self):
        seen = {True: 0, False: 0}
        for seed in range(700):
            draw = random.Random(seed)
            machine, _, bar = some_machine(draw, rules=2)
            bars = [bar]
            least = outcome(decide, machine, [], bar)
            if least is not TooMany:
                bars.append(list(least[1]))
            for each in bars:
                shield, backs = outcome(shield_of, machine, each), outcome(backs_of, machine, each)
                if TooMany in (shield, backs):
                    continue
                closed = all(holds_some(machine, one, each) for one in backs)
                fault = outcome(judge_shield, machine, [], each, shield)
                if fault is not TooMany:
                    self.assertIs(fault is None, closed)
                    seen[closed] += 1
        self.assertGreater(min(seen.values()), 100)

    def test_nothing_bad_is_come_to_from_inside(self):
        looked = 0
        for seed in range(300):
            draw = random.Random(seed)
            machine, starts, bad = some_machine(draw)
            found = outcome(decide, machine, starts, bad)
            if found is TooMany or found[0] == "run":
                continue
            shield = outcome(shield_of, machine, found[1])
            if shield is not TooMany and outcome(judge_shield, machine, starts, bad, shield) is not TooMany:
                self.assertIsNone(judge_shield(machine, starts, bad, shield))
                self.assertIsNone(judge_shield(machine, shield, bad, tuple(shield[::-1])))
                looked += 1
        self.assertGreater(looked, 60)


class Together(unittest.TestCase):

    def test_examples(self):
        self.assertEqual([bars_together(DOWN, [("s", 4)], [("s", 3)]), bars_common(DOWN, [("s", 4)], [("s", 3)]),
                          stronger(DOWN, [("s", 4)], [("s", 3)])], [(("s", 3),), (("s", 4),), True])

    def test_words(self):
        one, two = [("q", 5), ("p", 3), ("p", 4)], [("p", 1), ("p", 1)]
        self.assertEqual(untouched(bars_together, STILL, one, two), (("p", 1), ("q", 5)))
        self.assertEqual(untouched(bars_common, STILL, one, two), (("p", 3),))
        self.assertIs(untouched(stronger, STILL, one, two), False)
        self.assertIs(untouched(stronger, STILL, one[1:], tuple(two)), True)
        self.assertIs(stronger(STILL, two, one[1:]), False)
        self.assertIs(stronger(STILL, [], []), True)
        self.assertIs(stronger(STILL, one, []), False)
        self.assertEqual(untouched(bars_together, STILL, (), ()), ())
        self.assertEqual(untouched(bars_common, STILL, one, ()), ())
        self.assertEqual(bars_common(TALK, [("p", ("a", "a")), ("q", ("b",))], [("q", ("a",))]),
                         (("q", ("a", "b")), ("q", ("b", "a"))))

    def test_shields_in_common(self):
        one, two = [("p", to(3)), ("q", ALL), ("p", to(1))], [("q", to(5)), ("p", ALL), ("q", to(7))]
        self.assertEqual(untouched(shields_common, STILL, one, two), [("p", to(3)), ("q", to(7))])
        self.assertEqual(untouched(shields_common, STILL, one, ()), [])
        self.assertEqual(untouched(shields_common, STILL, one[:1], two[:1]), [])
        self.assertEqual(shields_common(TALK, [("p", row(often(A), often(B)))], [("p", row(often(B), often(A)))]),
                         [("p", row(often(A))), ("p", row(often(B)))])

    def test_the_caps(self):
        machine = Machine(PAIRS, ["s", "t"], [])
        whole = [("s", pair(ALL, ALL)), ("t", pair(ALL, ALL))]
        self.assertEqual(shields_common(machine, stairs(24) + stairs(24, "t"), whole), stairs(24) + stairs(24, "t"))
        self.assertEqual(kept(TooMany, shields_common, machine, whole, stairs(25, "t")), {})
        self.assertEqual(shields_common(machine, stairs(5), whole, limits=5), stairs(5))
        self.assertEqual(kept(TooMany, shields_common, machine, stairs(5), whole, limits=4), {})
        self.assertEqual(shields_common(machine, stairs(5), [], limits=1), [])
        bags = Machine(HEAP, ["s"], [])
        five, four = bag([A] * 5, []), bag([B] * 4, [])
        self.assertEqual(shields_common(bags, [("s", five)], [("s", four)]), [("s", bag([], []))])
        # What is too great in common is told by no limit: five of one kind and four of the other.
        self.assertEqual(shields_common(bags, [("s", bag([A] * 4, [B]))], [("s", bag([B] * 4, [A]))]), [("s", bag([A] * 4 + [B] * 4, []))])
        self.assertEqual(kept(TooMany, shields_common, bags, [("s", bag([A] * 5, [B]))], [("s", bag([B] * 4, [A]))]), {})
        lists = [[("a",) * 6], [("b",) * 6]]
        self.assertEqual(outcome(common, LANE, *lists), TooMany)
        self.assertEqual(kept(TooMany, bars_common, TALK, [("q", lists[0][0])], [("q", lists[1][0])]), {})
        self.assertEqual(bars_common(TALK, [("q", lists[0][0])], [("p", lists[1][0])]), ())
        self.assertEqual(bars_together(TALK, [("q", lists[0][0])], [("q", lists[1][0])]), (("q", ("a",) * 6), ("q", ("b",) * 6)))
        # Those that are handed in count, also where others make them needless.
        self.assertEqual(kept(TooMany, bars_common, TALK, [("q", ()), ("q", lists[0][0])], [("q", ()), ("q", lists[1][0])]), {})

    def test_sixty_values_in_common(self):
        machine = Machine(("both", PAIRS, COUNT), ["s"], [])
        def bar(many):
            return [("s", (v, 0)) for _, v in edge(many)]
        self.assertEqual(len(bars_common(machine, bar(60), [("s", ((0, 0), 5))])), 60)
        self.assertEqual(kept(TooMany, bars_common, machine, bar(61), [("s", ((0, 0), 5))]), {})
        self.assertEqual(len(bars_together(machine, bar(61), bar(61))), 61)

    def test_wrong_ones(self):
        for call in (bars_together, bars_common, stronger):
            for value in NONE + [("s", ALL)]:
                self.assertEqual(kept(BadPosition, call, TILL, [("s", 1), value], [value]), {"number": 1})
                self.assertEqual(kept(BadPosition, call, TILL, [("s", 1)], [("s", 0), ("s", 0), value]), {"number": 2})
        for value in NONE + [("s", 1)]:
            self.assertEqual(kept(BadPosition, shields_common, TILL, [("s", ALL), value], [value]), {"number": 1})
            self.assertEqual(kept(BadPosition, shields_common, TILL, [("s", ALL)] * 3, [value]), {"number": 0})
        heavy = [("q", ("a",) * 6)], [("q", ("b",) * 6), 5]
        self.assertEqual(kept(BadPosition, bars_common, TALK, *heavy), {"number": 1})
        machine = Machine(PAIRS, ["s"], [])
        self.assertEqual(kept(BadPosition, shields_common, machine, stairs(5), stairs(5) + [None], limits=1), {"number": 5})

    def test_by_plain_search(self):
        for sort, number, length in SMALL:
            for seed in range(12):
                draw = random.Random(seed)
                machine, limits, one = some_machine(draw, sort=sort)
                two = [(draw.choice(machine.states()), some_value(draw, sort, 4, 2)) for _ in range(3)]
                more = [(draw.choice(machine.states()), shaped(sort, some_limit(draw, sort, 3, 2))) for _ in range(3)]
                each = [(state, v) for state in machine.states() for v in universe(sort, number, length)]
                both, either = bars_common(machine, one, two), bars_together(machine, one, two)
                shared = shields_common(machine, limits, more)
                self.assertEqual(shared, joined(machine, shared))
                for found in (both, either):
                    self.assertEqual(found, tuple(least_positions(machine, found)))
                for at in draw.sample(each, min(30, len(each))):
                    ones, twos = holds_some(machine, at, one), holds_some(machine, at, two)
                    self.assertIs(holds_some(machine, at, both), ones and twos)
                    self.assertIs(holds_some(machine, at, either), ones or twos)
                    ones, twos = (any(lies(machine, limit, at) for limit in told) for told in (limits, more))
                    self.assertIs(any(lies(machine, limit, at) for limit in shared), ones and twos)
                self.assertIs(stronger(machine, one, two), all(holds_some(machine, at, two) for at in one))
                self.assertIs(stronger(machine, both, one) and stronger(machine, both, two), True)
                self.assertIs(stronger(machine, one, either) and stronger(machine, two, either), True)

    def test_bars_and_shields_are_such_again(self):
        bars, shields = 0, 0
        for seed in range(300):
            draw = random.Random(seed)
            machine, starts, bad = some_machine(draw)
            more = [(draw.choice(machine.states()), some_value(draw, machine.kind, 4, 2))]
            found = [outcome(decide, machine, [], bad), outcome(decide, machine, [], bad + more)]
            if TooMany not in found:
                for call in (bars_common, bars_together):
                    made = outcome(call, machine, found[0][1], found[1][1])
                    if made is not TooMany and outcome(judge_bar, machine, [], bad, made) is not TooMany:
                        self.assertIsNone(judge_bar(machine, [], bad, made))
                        bars += 1
            found = [outcome(grown, machine, starts, bad), outcome(decide, machine, starts, bad)]
            if TooMany in found or found[0][0] == "run":
                continue
            two = outcome(shield_of, machine, found[1][1])
            if two is not TooMany and outcome(judge_shield, machine, starts, bad, two) is None:
                common_ones = outcome(shields_common, machine, found[0][1], two)
                for made in [found[0][1] + two, two + found[0][1]] + ([] if common_ones is TooMany else [common_ones]):
                    self.assertIsNone(judge_shield(machine, starts, bad, made))
                    shields += 1
        self.assertGreater(min(bars, shields), 100)


class Thinned(unittest.TestCase):

    def test_words(self):
        some = [("s", to(4)), ("s", to(2)), ("s", to(4)), ("s", to(5))]
        self.assertEqual(untouched(thinned, DOWN, [("s", to(2))], [("s", 9)], some), [("s", to(4))])
        self.assertEqual(untouched(thinned, DOWN, [("s", to(5))], [("s", 9)], tuple(some)), [("s", to(5))])
        self.assertEqual(untouched(thinned, DOWN, [], [], some), [])
        self.assertEqual(untouched(thinned, DOWN, [], [], []), [])
        # The last ones go first, and what is left stands in its order.
        self.assertEqual(thinned(STILL, [("p", to(1)), ("q", to(1))], [], [("q", to(3)), ("p", ALL), ("q", to(2)), ("p", to(1))]),
                         [("q", to(3)), ("p", ALL)])
        go = Machine(COUNT, ["p", "q"], [("go", "p", ("add", 1), "q")])
        self.assertEqual(thinned(go, [("p", to(1))], [], [("q", to(3)), ("p", to(1)), ("q", to(9)), ("q", to(1))]),
                         [("q", to(3)), ("p", to(1))])
        # Two that hold one another up go one by one or not at all.
        turn = Machine(COUNT, ["p", "q"], [("go", "p", ("stay",), "q"), ("back", "q", ("stay",), "p")])
        self.assertEqual(thinned(turn, [], [], [("q", to(3)), ("p", to(3))]), [("q", to(3)), ("p", to(3))])

    def test_wrong_ones(self):
        for value in NONE + [("s", 1)]:
            self.assertEqual(kept(BadPosition, thinned, TILL, [("s", ALL), value], [value], [("s", ALL)]), {"number": 1})
        for value in NONE + [("s", ALL)]:
            self.assertEqual(kept(BadPosition, thinned, TILL, [("s", ALL)], [("s", 0), value], [("s", ALL)]), {"number": 1})

    def test_random_ones_by_the_words(self):
        sizes = {}
        for seed in range(400):
            draw = random.Random(seed)
            machine, starts, bad = some_machine(draw)
            found = outcome(grown, machine, starts, bad)
            if found is TooMany or found[0] == "run":
                continue
            shield = found[1] + draw.sample(found[1] + starts, min(3, len(found[1])))
            least = outcome(decide, machine, starts, bad)
            more = TooMany if least is TooMany else outcome(shield_of, machine, least[1])
            if more is not TooMany and outcome(judge_shield, machine, starts, bad, more) is None:
                shield = shield + more
            draw.shuffle(shield)
            self.assertIsNone(judge_shield(machine, starts, bad, shield))
            left = untouched(thinned, machine, starts, bad, shield)
            self.assertEqual(left, told_thinned(machine, starts, bad, shield))
            self.assertIsNone(judge_shield(machine, starts, bad, left))
            sizes[len(shield) - len(left)] = sizes.get(len(shield) - len(left), 0) + 1
        self.assertGreater(len(sizes), 4)

    def test_joined_as_its_words(self):
        some = [("q", to(2)), ("p", to(3)), ("q", to(5))]
        self.assertEqual(told_joined(STILL, some), joined(STILL, some))


if __name__ == "__main__":
    unittest.main()
