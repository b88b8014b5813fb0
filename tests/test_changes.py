"""Points 9.4 to 9.6: renamed machines, machines beside one another, fewest rules taken away."""

import itertools
import random
import unittest

from helpers import kept, least_values_of, some_value, untouched
from limit_words import ALL, pair, to
from lossbars.bars import judge_bar
from lossbars.changes import (
    beside,
    beside_rule,
    beside_starts,
    beside_state,
    fewest_taken,
    lifted_bar,
    lifted_run,
    renamed,
)
from lossbars.endings import longest
from lossbars.errors import BadPosition, TooMany, UnknownName
from lossbars.growing import grown
from lossbars.machines import Machine, least_positions, starts_at, without
from lossbars.rounds import decide
from lossbars.runs import judge_run, steps
from lossbars.shields import bar_of, judge_shield, shield_of
from machine_words import COUNT, LANE, NONE, STILL, TALK, TILL, outcome, some_machine

UP = Machine(COUNT, ["p", "q"], [("up", "p", ("add", 1), "q")])
DOWN = without(TILL, ["up"])


def written(number):
    """A number in letters, by counting."""
    rows = itertools.chain.from_iterable(itertools.product("abcdefghijklmnopqrstuvwxyz", repeat=many) for many in (1, 2, 3))
    return "".join(next(itertools.islice(rows, number, None)))


def still(states, rules=()):
    return Machine(COUNT, states, rules)


def names(many):
    """So many different words, none of them one of those that beside makes."""
    return ["x" + written(k) for k in range(many)]


class Renamed(unittest.TestCase):

    def test_words(self):
        states, rules = {"q": "p", "p": "first"}, {"ask": "hear", "hear": "ask", "spoil": "p"}
        found = untouched(renamed, TALK, states, rules)
        self.assertEqual(found, Machine(LANE, ["first", "p"], [("hear", "first", ("send", "a"), "first"), ("ask", "first", ("receive", "b"), "p"),
                                                               ("p", "first", ("any", ("turn", "a", "b")), "first")]))
        self.assertEqual(renamed(found, {"first": "p", "p": "q"}, {"hear": "ask", "ask": "hear", "p": "spoil"}), TALK)
        self.assertEqual(renamed(STILL, {"p": "p", "q": "q"}, {}), STILL)


class Beside(unittest.TestCase):

    def test_examples(self):
        self.assertEqual([beside_state(UP, TILL, "q", "s"), beside_rule(UP, TILL, 1, "up", "q"), beside(UP, TILL).rule("rc"), len(beside(UP, TILL))],
                         ["sb", "rc", ("sb", ("second", ("add", 1)), "sb"), 5])
        self.assertEqual(lifted_run(UP, TILL, 0, (0, ("p", 0), (("up", 1),)), ("s", 4)), (0, ("sa", (0, 4)), (("ra", (1, 4)),)))
        self.assertEqual([fewest_taken(TILL, [("s", to(0))], [("s", 3)], ["down", "up"]), fewest_taken(TILL, [("s", to(3))], [("s", 3)], ["up"])],
                         [("taken", ("up",), (("s", 3),)), ("none", (0, ("s", 3), ()))])

    def test_the_whole_machine(self):
        other = Machine(LANE, ["x", "y"], [("eat", "x", ("receive", "a"), "y"), ("give", "y", ("send", "b"), "y")])
        self.assertEqual(untouched(beside, UP, other), Machine(("both", COUNT, LANE), ["sa", "sb", "sc", "sd"], [
            ("ra", "sa", ("first", ("add", 1)), "sc"), ("rb", "sb", ("first", ("add", 1)), "sd"),
            ("rc", "sa", ("second", ("receive", "a")), "sb"), ("rd", "sc", ("second", ("receive", "a")), "sd"),
            ("re", "sb", ("second", ("send", "b")), "sb"), ("rf", "sd", ("second", ("send", "b")), "sd")]))
        self.assertEqual([beside_state(UP, other, x, y) for x in "pq" for y in "xy"], ["sa", "sb", "sc", "sd"])
        self.assertEqual([beside_rule(UP, other, 0, "up", y) for y in "xy"], ["ra", "rb"])
        self.assertEqual([beside_rule(UP, other, 1, name, x) for name in ("eat", "give") for x in "pq"], ["rc", "rd", "re", "rf"])
        self.assertEqual(beside(STILL, STILL), Machine(("both", COUNT, COUNT), ["sa", "sb", "sc", "sd"], []))
        # A rule and a state may be called alike.
        self.assertEqual(beside_rule(UP, still(["up"], [("up", "up", ("stay",), "up")]), 1, "up", "p"), "rb")

    def test_numbers_in_letters(self):
        self.assertEqual([written(k) for k in (0, 25, 26, 27, 701, 702)], ["a", "z", "aa", "ab", "zz", "aaa"])
        one, other = still(names(30)), still(names(26))
        for number in (0, 1, 25, 26, 27, 51, 52, 77, 78, 675, 676, 701, 702, 703, 779):
            x, y = names(30)[number // 26], names(26)[number % 26]
            self.assertEqual(beside_state(one, other, x, y), "s" + written(number))
        self.assertEqual(beside(one, other).states(), ["s" + written(k) for k in range(780)])
        rule = Machine(COUNT, names(28), [("go", "xa", ("stay",), "xb")])
        self.assertEqual([beside_rule(one, rule, 1, "go", name) for name in names(30)], ["r" + written(k) for k in range(30)])
        self.assertEqual([beside_rule(rule, other, 0, "go", name) for name in names(26)], ["r" + written(k) for k in range(26)])

    def test_two_sorts_that_are_no_sort(self):
        def machine(sort):
            return Machine(sort, ["s"], [])
        nine, five = ("mark", ("a", "b", "c")), ("lane", ("lane", ("lane", ("lane", COUNT))))
        nine = ("both", nine, nine)
        deep = ("both", COUNT, ("both", COUNT, ("both", COUNT, COUNT)))
        for one, other, right in [(nine, ("mark", ("a", "b", "c")), True), (nine, nine, False), (five, COUNT, False), (COUNT, five[1], True),
                                  (five[1], ("lane", COUNT), True), (five[1], ("lane", ("lane", COUNT)), False), (deep, COUNT, True),
                                  (("both", COUNT, deep), COUNT, False), (deep, ("both", COUNT, COUNT), True), (deep, ("both", COUNT, ("lane", COUNT)), False)]:
            for call in (lambda: beside(machine(one), machine(other)), lambda: lifted_bar(machine(one), machine(other), 0, [])):
                self.assertIs(outcome(call) is not TooMany, right)
        self.assertEqual(kept(TooMany, lifted_bar, machine(nine), machine(nine), 1, []), {})
        # The names are told all the same.
        self.assertEqual(beside_state(machine(nine), machine(nine), "s", "s"), "sa")

    def test_starts(self):
        starts, others = [("q", to(2)), ("p", ALL), ("q", to(2))], [("s", to(1)), ("s", ALL)]
        self.assertEqual(untouched(beside_starts, UP, TILL, starts, others), [
            ("sb", pair(to(2), to(1))), ("sb", pair(to(2), ALL)), ("sa", pair(ALL, to(1))), ("sa", pair(ALL, ALL)),
            ("sb", pair(to(2), to(1))), ("sb", pair(to(2), ALL))])
        self.assertEqual(untouched(beside_starts, UP, TILL, (), others), [])
        self.assertEqual(beside_starts(UP, TILL, starts, ()), [])

    def test_lifted_runs(self):
        run = (2, ("s", 4), (("down", 1), ("up", 2)))
        self.assertEqual(untouched(lifted_run, UP, TILL, 1, run, ("q", 7)), (2, ("sb", (7, 4)), (("re", (7, 1)), ("rc", (7, 2)))))
        self.assertEqual(lifted_run(UP, TILL, 1, (0, ("s", 3), ()), ("p", 1)), (0, ("sa", (1, 3)), ()))
        # In the machine that goes the state changes, in the one that stands it does not.
        other = still(["x", "y"], [("go", "x", ("stay",), "y"), ("back", "y", ("stay",), "x")])
        self.assertEqual(lifted_run(UP, other, 0, (1, ("p", 0), (("up", 0),)), ("y", 9)), (1, ("sb", (0, 9)), (("rb", (0, 9)),)))
        self.assertEqual(lifted_run(UP, other, 1, (0, ("x", 5), (("go", 4), ("back", 4))), ("q", 9)), (0, ("sc", (9, 5)), (("rd", (9, 4)), ("rf", (9, 4)))))

    def test_lifted_bars(self):
        self.assertEqual(untouched(lifted_bar, UP, TILL, 0, [("q", 3), ("p", 5), ("q", 4)]), (("sa", (5, 0)), ("sb", (3, 0))))
        self.assertEqual(untouched(lifted_bar, UP, TILL, 1, (("s", 3),)), (("sa", (0, 3)), ("sb", (0, 3))))
        self.assertEqual(lifted_bar(UP, TALK, 0, [("q", 3)]), (("sc", (3, ())), ("sd", (3, ()))))
        letters = Machine(("mark", ("b", "a")), ["x"], [])
        self.assertEqual(lifted_bar(UP, letters, 0, [("p", 2)]), (("sa", (2, "b")), ("sa", (2, "a"))))
        self.assertEqual(lifted_bar(letters, UP, 1, [("p", 2)]), (("sa", ("b", 2)), ("sa", ("a", 2))))
        self.assertEqual(untouched(lifted_bar, UP, TILL, 0, ()), ())

    def test_random_ones(self):
        words = {"run": 0, "bar": 0, "lists": 0}
        for seed in range(500):
            draw = random.Random(seed)
            side = draw.randint(0, 1)
            going, starts, bad = some_machine(draw, 2, 1)
            standing = some_machine(draw, 2, 1)[0]
            one, other = (going, standing) if side == 0 else (standing, going)
            both = beside(one, other)
            self.assertEqual(len(both), len(one) * len(other.states()) + len(other) * len(one.states()))
            position = (draw.choice(standing.states()), some_value(draw, standing.kind, 3, 2))
            self.steps(one, other, both, (going, standing) if side == 0 else (standing, going), side, draw)
            stand = starts_at(standing, [position])
            lifted = beside_starts(one, other, *((starts, stand) if side == 0 else (stand, starts)))
            answer = outcome(decide, going, starts, bad)
            ends = lifted_bar(one, other, side, bad)
            self.assertEqual(ends, tuple(least_positions(both, ends)))
            words["lists"] += 1
            if answer is not TooMany and answer[0] == "run" and outcome(judge_run, going, starts, bad, answer[1]) is None:
                run = lifted_run(one, other, side, answer[1], position)
                # What is bad beside one another is what is bad with any state and any value.
                self.assertIsNone(judge_run(both, lifted, ends, run))
                words["run"] += 1
            answer = outcome(decide, going, [], bad)
            if answer is not TooMany:
                fault = outcome(judge_bar, both, [], ends, lifted_bar(one, other, side, answer[1]))
                self.assertIn(fault, (None, TooMany))
                words["bar"] += fault is None
        self.assertGreater(min(words.values()), 80)

    def steps(self, one, other, both, machines, side, draw):
        """A step of both is a step of one of them, the other one standing still."""
        x, y = draw.choice(one.states()), draw.choice(other.states())
        v, w = some_value(draw, one.kind, 3, 2), some_value(draw, other.kind, 3, 2)
        told = [(beside_rule(one, other, 0, name, y), (came, w)) for name, came in steps(one, (x, v))]
        told += [(beside_rule(one, other, 1, name, x), (v, came)) for name, came in steps(other, (y, w))]
        self.assertEqual(steps(both, (beside_state(one, other, x, y), (v, w))), told)

    def test_what_is_told_is_a_machine_anywhere(self):
        both = beside(UP, DOWN)
        self.assertEqual(longest(both, ("sa", (0, 5))), 3)
        again = beside(both, TILL)
        self.assertEqual((again.states(), len(again), again.kind), (["sa", "sb"], 3 + 4, ("both", ("both", COUNT, COUNT), COUNT)))
        starts, bad = [("sa", pair(to(0), to(5)))], [("sb", (2, 0))]
        word, bar = decide(both, starts, bad)
        self.assertEqual((word, grown(both, starts, bad)[0]), ("bar", "shield"))
        self.assertIsNone(judge_shield(both, starts, bad, shield_of(both, bar)))
        self.assertEqual(bar_of(both, shield_of(both, bar)), bar)
        self.assertEqual(fewest_taken(both, starts, [("sb", (1, 0))], ["rb", "ra"])[:2], ("taken", ("ra",)))
        self.assertEqual(least_values_of(both.kind), [(0, 0)])


class FewestTaken(unittest.TestCase):

    def test_order(self):
        pairs = ("both", COUNT, COUNT)
        machine = Machine(pairs, ["s"], [("one", "s", ("first", ("add", 1)), "s"), ("two", "s", ("second", ("add", 1)), "s"),
                                         ("both", "s", ("then", ("first", ("add", 1)), ("second", ("add", 1))), "s")])
        start = [("s", pair(to(0), to(0)))]
        for bad, marked, names_taken in [
                ((0, 0), ["one", "two", "both"], None), ((1, 0), ["one", "two", "both"], ("one", "both")), ((1, 0), ["both", "two", "one"], ("both", "one")),
                ((0, 2), ["one", "two", "both"], ("two", "both")), ((1, 1), ["two", "one", "both"], ("two", "both")),
                ((1, 1), ["one", "two", "both"], ("one", "both")), ((1, 1), ["both", "one", "two"], ("both", "one")), ((1, 1), ["one"], None),
                ((2, 3), ["both", "two"], ("both", "two")), ((2, 3), [], None), ((2, 3), ["both"], None)]:
            found = untouched(fewest_taken, machine, start, [("s", bad)], marked)
            if names_taken is None:
                self.assertEqual(found[0], "none")
                self.assertIsNone(judge_run(without(machine, marked), start, [("s", bad)], found[1]))
            else:
                self.assertEqual(found[:2], ("taken", names_taken))
                self.assertEqual(found[2], decide(without(machine, names_taken), start, [("s", bad)])[1])

    def test_no_marked_rule_and_none_needed(self):
        self.assertEqual(untouched(fewest_taken, TILL, [("s", to(0))], [], ()), ("taken", (), ()))
        self.assertEqual(fewest_taken(DOWN, [("s", to(2))], [("s", 3)], ["down"]), ("taken", (), (("s", 3),)))
        self.assertEqual(fewest_taken(TILL, [("s", to(0))], [("s", 1)], [])[0], "none")
        three = Machine(COUNT, ["s"], [(name, "s", ("add", 1), "s") for name in ("a", "b", "c")])
        self.assertEqual(fewest_taken(three, [("s", to(0))], [("s", 1)], ("c", "a", "b")), ("taken", ("c", "a", "b"), (("s", 1),)))

    def test_wrong_ones(self):
        for value in ["s", "", None, 0, True, (), ["up"], {}, ("up",), "upp"]:
            self.assertEqual(kept(UnknownName, fewest_taken, TILL, [5], [5], ["up", value, "no"]), {"name": value})
        for value in NONE + [("s", 1)]:
            self.assertEqual(kept(BadPosition, fewest_taken, TILL, [("s", ALL), value], [value], ["up"]), {"number": 1})
        for value in NONE + [("s", ALL)]:
            self.assertEqual(kept(BadPosition, fewest_taken, TILL, [("s", ALL)], [("s", 0), ("s", 0), value], ["up"]), {"number": 2})

    def test_too_many(self):
        fall = Machine(COUNT, ["s"], [("fall", "s", ("take", 20), "s"), ("up", "s", ("add", 1), "s")])
        # The empty set is gone through first.
        self.assertEqual(kept(TooMany, fewest_taken, fall, [("s", to(0))], [("s", 80)], ["fall"]), {})
        self.assertEqual(fewest_taken(fall, [("s", to(80))], [("s", 80)], ["fall"])[0], "none")
        # A set behind the one that is told is not.
        late = Machine(COUNT, ["s"], [("up", "s", ("add", 1), "s"), ("one", "s", ("add", 20), "s")])
        self.assertEqual(fewest_taken(late, [("s", to(18))], [("s", 19)], ["one", "up"])[:2], ("taken", ("one", "up")))
        self.assertEqual(kept(TooMany, fewest_taken, late, [("s", to(0))], [("s", 20)], ["one"]), {})

    def test_random_ones(self):
        words = {}
        for seed in range(1500):
            draw = random.Random(seed)
            machine, starts, bad = some_machine(draw, rules=6, sort=draw.choice([None, COUNT, LANE, ("heap", COUNT)]))
            marked = draw.sample([rule[0] for rule in machine.rules()], min(len(machine), draw.randint(0, 3)))
            found = outcome(fewest_taken, machine, starts, bad, marked)
            told = outcome(self.told, machine, starts, bad, marked)
            if told is not TooMany and told[0] == "none":
                self.assertEqual(found[0], "none")
                self.assertIsNone(judge_run(without(machine, marked), starts, bad, found[1]))
            else:
                self.assertEqual(found, told)
            if found is not TooMany and found[0] == "taken":
                for many in range(len(found[1])):
                    for less in itertools.combinations(found[1], many):
                        self.assertEqual(decide(without(machine, less), starts, bad)[0], "run")
            word = found if found is TooMany else found[:2] if found[0] == "taken" else "none"
            words[word if word in (TooMany, "none") else len(word[1])] = True
        self.assertLessEqual({"none", 0, 1, 2}, set(words))

    def told(self, machine, starts, bad, marked):
        rows = [row for many in range(len(marked) + 1) for row in itertools.combinations(range(len(marked)), many)]
        for taken in sorted(rows, key=lambda row: (len(row), row)):
            names_taken = tuple(marked[k] for k in taken)
            word, found = decide(without(machine, names_taken), starts, bad)
            if word == "bar":
                return ("taken", names_taken, found)
        return ("none", found)


if __name__ == "__main__":
    unittest.main()
