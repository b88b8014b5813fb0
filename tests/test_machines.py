"""Points 5.1, 5.2 and 5.3: machines, positions, position limits."""

import random
import unittest

from helpers import ODD, kept, path_of, some_limit, some_value, untouched
from limit_words import A, B, ALL, bag, often, once, row, to
from machine_words import AB, COUNT, LANE, NONE, STILL, TALK, TILL, holds, holds_some, least, lies, position_key, some_machine
from lossbars.errors import BadAct, BadName, BadPosition, BadSort, TwiceTold, UnknownName
from lossbars.limits import limit_list, shaped
from lossbars.machines import (
    Machine,
    holds_one,
    holds_position,
    inside_of,
    is_position,
    joined,
    least_positions,
    starts_at,
    without,
)

UP, DOWN = ("up", "s", ("add", 1), "s"), ("down", "s", ("take", 2), "s")
NO_NAMES = [value for value in ODD if value != "mark"] + ["a" * 9, "A", "a1", "ab_", ("s",), ["s"], {"s": 1}, 5, TILL]


class Machines(unittest.TestCase):

    def test_examples(self):
        self.assertEqual([TILL.rule("down"), len(TILL), "up" in TILL, "s" in TILL, without(TILL, ["up"]).rules()],
                         [("s", ("take", 2), "s"), 2, True, False, [("down", "s", ("take", 2), "s")]])

    def test_what_it_tells(self):
        machine = Machine(LANE, ["q", "p"], [("go", "p", ("send", "a"), "q"), ("p", "q", ("stay",), "q")])
        self.assertEqual(machine.kind, LANE)
        self.assertEqual(machine.states(), ["q", "p"])
        self.assertEqual(machine.rules(), [("go", "p", ("send", "a"), "q"), ("p", "q", ("stay",), "q")])
        self.assertEqual(machine.rule("go"), ("p", ("send", "a"), "q"))
        # A rule may be called like a state.
        self.assertEqual(machine.rule("p"), ("q", ("stay",), "q"))
        self.assertEqual([len(machine), "p" in machine, "q" in machine], [2, True, False])
        self.assertEqual((len(STILL), STILL.rules(), STILL.states(), "p" in STILL), (0, [], ["p", "q"], False))
        self.assertIsInstance(Machine.kind, property)

    def test_any_value_is_in_a_machine_or_not(self):
        for value in NO_NAMES + ["s", "upp", ""]:
            self.assertIs(value in TILL, False)
            self.assertIs(value not in TILL, True)
            self.assertEqual(kept(UnknownName, TILL.rule, value), {"name": value})

    def test_equal_ones(self):
        same = Machine(COUNT, ("s",), (UP, DOWN))
        self.assertTrue(TILL == same and same == TILL)
        self.assertFalse(TILL != same)
        for other in [Machine(COUNT, ["s"], [DOWN, UP]), Machine(COUNT, ["s"], [UP]), Machine(COUNT, ["s", "t"], [UP, DOWN]),
                      Machine(("both", COUNT, COUNT), ["s"], []), Machine(COUNT, ["s"], [UP, ("down", "s", ("take", 3), "s")]),
                      Machine(COUNT, ["s"], [UP, ("fall", "s", ("take", 2), "s")]), STILL]:
            self.assertFalse(TILL == other)
            self.assertTrue(TILL != other)
        self.assertFalse(Machine(COUNT, ["p", "q"], []) == Machine(COUNT, ["q", "p"], []))
        self.assertFalse(Machine(COUNT, ["p"], []) == Machine(LANE, ["p"], []))
        for other in NO_NAMES[:-1] + [TILL.rules(), (COUNT, ["s"], [UP, DOWN])]:
            self.assertFalse(TILL == other)
            self.assertTrue(TILL != other)

    def test_it_does_not_change_with_what_it_was_made_of(self):
        states, rules = ["s"], [UP, DOWN]
        machine = Machine(COUNT, states, rules)
        states.append("t")
        rules.pop()
        self.assertEqual((machine.states(), machine.rules(), len(machine)), (["s"], [UP, DOWN], 2))
        for call in [machine.states, machine.rules]:
            found = call()
            found.append("more")
            self.assertNotEqual(call(), found)
        self.assertTrue(machine == TILL)

    def test_wrong_sorts_and_states(self):
        self.assertEqual(path_of(BadSort, Machine, ("lane", 7), ["S", "S"], [UP]), (1,))
        self.assertEqual(path_of(BadSort, Machine, ["count"], [], []), ())
        for value in NO_NAMES:
            self.assertEqual(kept(BadName, Machine, COUNT, ["s", value], [("up", 1, 2, 3)]), {"name": value})
        self.assertEqual(kept(TwiceTold, Machine, COUNT, ["s", "t", "s", "?"], []), {"name": "s"})
        self.assertEqual(kept(BadName, Machine, COUNT, ["s", "?", "s"], []), {"name": "?"})

    def test_wrong_rules(self):
        def made(*rules):
            return Machine(COUNT, ["s", "t"], [UP] + list(rules))

        for value in NO_NAMES:
            self.assertEqual(kept(BadName, made, (value, 1, 2, 3)), {"name": value})
            self.assertEqual(kept(UnknownName, made, ("down", value, 2, 3)), {"name": value})
            self.assertEqual(kept(UnknownName, made, ("down", "s", 2, value)), {"name": value})
            self.assertIsInstance(path_of(BadAct, made, ("down", "s", value, "t")), tuple)
        self.assertEqual(kept(TwiceTold, made, ("up", 1, 2, 3)), {"name": "up"})
        self.assertEqual(kept(UnknownName, made, ("down", "u", 2, "v")), {"name": "u"})
        self.assertEqual(kept(UnknownName, made, ("down", "t", 2, "up")), {"name": "up"})
        self.assertEqual(path_of(BadAct, made, ("down", "s", ("then", ("add", 1), ("take", 0)), "t")), (2, 1))
        self.assertEqual(path_of(BadAct, made, ("down", "s", ("need", 100), "t")), (1,))
        # Rule by rule: what is wrong with the first one comes first.
        self.assertEqual(path_of(BadAct, made, ("down", "s", ("go",), "t"), ("?", 1, 2, 3)), ())
        self.assertEqual(kept(TwiceTold, made, ("down", "s", ("stay",), "t"), ("down", 1, 2, 3), ("?", 1, 2, 3)), {"name": "down"})
        self.assertEqual(kept(BadName, Machine, COUNT, ["S"], [("UP", "s", 1, "s")]), {"name": "S"})

    def test_errors_keep_copies(self):
        name = [["s"], {"a": [1]}]
        found = kept(BadName, Machine, COUNT, [name], [])["name"]
        name[1]["a"].append(2)
        self.assertEqual(found, [["s"], {"a": [1]}])

    def test_without(self):
        self.assertTrue(without(TILL, []) == TILL)
        self.assertTrue(without(TILL, ("down", "down")) == Machine(COUNT, ["s"], [UP]))
        self.assertEqual(untouched(lambda *told: without(*told).rules(), TILL, ["down", "up", "down"]), [])
        self.assertEqual(without(TALK, ["hear"]).states(), ["p", "q"])
        self.assertEqual(without(TALK, ["hear"]).kind, LANE)
        self.assertEqual(len(TILL), 2)
        for value in NO_NAMES:
            self.assertEqual(kept(UnknownName, without, TILL, ["up", "up", value, "?"]), {"name": value})


class Positions(unittest.TestCase):

    def test_examples(self):
        self.assertEqual([least_positions(TILL, [("s", 4), ("s", 2), ("s", 4)]), holds_one(TILL, [("s", 3)], ("s", 2)),
                          starts_at(TILL, [("s", 2)])], [[("s", 2)], False, [("s", ("to", 2))]])
        self.assertEqual(kept(BadPosition, least_positions, TILL, [("s", 1), ("t", 1)]), {"number": 1})

    def test_is_position(self):
        for machine, position in [(TILL, ("s", 0)), (TILL, ("s", 99)), (TALK, ("q", ())), (TALK, ("p", ("a",) * 8)),
                                  (Machine(("heap", COUNT), ["a"], []), ("a", (1, 1, 2)))]:
            self.assertIs(untouched(is_position, machine, position), True)
        for value in NONE + [("s", ()), ("up", 1), ("p", 1), ("s", ("to", 3))]:
            self.assertIs(untouched(is_position, TILL, value), False, value)
            self.assertIs(is_position(TALK, value), False)
        self.assertIs(is_position(Machine(("heap", COUNT), ["a"], []), ("a", (2, 1))), False)

    def test_holds_position(self):
        for machine, one, other, found in [
                (TILL, ("s", 3), ("s", 2), True), (TILL, ("s", 2), ("s", 3), False), (TALK, ("p", ("a", "b")), ("p", ("b",)), True),
                (TALK, ("p", ("a", "b")), ("q", ("b",)), False), (TALK, ("q", ()), ("q", ()), True)]:
            self.assertIs(untouched(holds_position, machine, one, other), found)
        for value in NONE:
            self.assertEqual(kept(BadPosition, holds_position, TILL, value, value), {"number": 0})
            self.assertEqual(kept(BadPosition, holds_position, TILL, ("s", 1), value), {"number": 1})

    def test_least_positions(self):
        some = [("q", ("a", "b")), ("p", ("b", "a")), ("q", ("b",)), ("p", ("a", "a")), ("p", ("b", "a"))]
        self.assertEqual(untouched(least_positions, TALK, some), [("p", ("a", "a")), ("p", ("b", "a")), ("q", ("b",))])
        turned = Machine(LANE, ["q", "p"], [])
        self.assertEqual(least_positions(turned, tuple(some)), [("q", ("b",)), ("p", ("a", "a")), ("p", ("b", "a"))])
        self.assertEqual(untouched(least_positions, TALK, []), [])
        for value in NONE:
            self.assertEqual(kept(BadPosition, least_positions, TILL, [("s", 1), ("s", 2), value, value]), {"number": 2})

    def test_holds_one(self):
        some = [("q", ("a", "b")), ("p", ("b",))]
        self.assertIs(untouched(holds_one, TALK, some, ("p", ("a", "b"))), True)
        self.assertIs(untouched(holds_one, TALK, some, ("q", ("b", "a"))), False)
        self.assertIs(holds_one(TALK, (), ("q", ())), False)
        for value in NONE:
            self.assertEqual(kept(BadPosition, holds_one, TILL, [("s", 1), value], value), {"number": 1})
            self.assertEqual(kept(BadPosition, holds_one, TILL, [("s", 1), ("s", 1)], value), {"number": 2})
            self.assertEqual(kept(BadPosition, holds_one, TILL, [], value), {"number": 0})

    def test_random_ones(self):
        for seed in range(200):
            draw = random.Random(seed)
            machine, _, _ = some_machine(draw)
            some = [(draw.choice(machine.states()), some_value(draw, machine.kind, 3, 2)) for _ in range(draw.randint(0, 6))]
            one = (draw.choice(machine.states()), some_value(draw, machine.kind, 3, 3))
            found = untouched(least_positions, machine, some)
            self.assertEqual(found, least(machine, some))
            self.assertEqual(found, sorted(found, key=lambda each: position_key(machine, each)))
            self.assertIs(holds_one(machine, some, one), holds_some(machine, one, some))
            for other in some:
                self.assertIs(holds_position(machine, one, other), holds(machine, one, other))


class PositionLimits(unittest.TestCase):

    def test_examples(self):
        self.assertEqual([inside_of(TILL, [("s", ("to", 2)), ("s", ("all",))], ("s", 5)),
                          joined(TILL, [("s", ("to", 2)), ("s", ("to", 4))])], [[1], [("s", ("to", 4))]])

    def test_starts_at(self):
        some = [("q", ("b", "a")), ("p", ()), ("q", ("b", "a"))]
        self.assertEqual(untouched(starts_at, TALK, some), [("q", row(once(B), once(A))), ("p", row()), ("q", row(once(B), once(A)))])
        self.assertEqual(starts_at(Machine(("heap", AB), ["a"], []), [("a", ("a", "b"))]), [("a", bag([A, B], []))])
        self.assertEqual(untouched(starts_at, TALK, ()), [])
        for value in NONE:
            self.assertEqual(kept(BadPosition, starts_at, TILL, [("s", 1), value]), {"number": 1})

    def test_inside_of(self):
        limits = [("p", row(often(A))), ("q", row(often(A))), ("p", row(once(A), once(B))), ("p", row(often(A)))]
        self.assertEqual(untouched(inside_of, TALK, limits, ("p", ("a",))), [0, 2, 3])
        self.assertEqual(untouched(inside_of, TALK, limits, ("q", ("b",))), [])
        self.assertEqual(inside_of(TALK, [], ("q", ())), [])

    def test_joined(self):
        limits = [("q", row(often(A))), ("p", row(once(B))), ("q", row(once(A), once(A))), ("p", row(once(A))), ("p", row(once(B)))]
        self.assertEqual(untouched(joined, TALK, limits), [("p", row(once(A))), ("p", row(once(B))), ("q", row(often(A)))])
        self.assertEqual(joined(Machine(LANE, ["q", "p"], []), limits), [("q", row(often(A))), ("p", row(once(A))), ("p", row(once(B)))])
        self.assertEqual(untouched(joined, TALK, []), [])

    def test_wrong_ones(self):
        for value in NONE + [("s", 1), ("s", ("is", "a")), ("t", ("all",)), ["s", ("all",)], ("s", ["all"]), ("s", ("all",), 1)]:
            self.assertEqual(kept(BadPosition, inside_of, TILL, [("s", ALL), value, value], value), {"number": 1})
            self.assertEqual(kept(BadPosition, joined, TILL, [("s", to(1)), ("s", ALL), value]), {"number": 2})
        for value in NONE:
            self.assertEqual(kept(BadPosition, inside_of, TILL, [("s", ALL), ("s", ALL)], value), {"number": 2})
        # A limit in another form is none.
        for value in [("p", row(often(A, A))), ("p", row(often(A), once(A))), ("p", row(often()))]:
            self.assertEqual(kept(BadPosition, joined, TALK, [value]), {"number": 0})
            self.assertEqual(kept(BadPosition, inside_of, TALK, [("p", row()), value], ("p", ())), {"number": 1})

    def test_random_ones(self):
        for seed in range(200):
            draw = random.Random(seed)
            machine, _, _ = some_machine(draw)
            limits = [(draw.choice(machine.states()), shaped(machine.kind, some_limit(draw, machine.kind, 3, 2)))
                      for _ in range(draw.randint(0, 5))]
            one = (draw.choice(machine.states()), some_value(draw, machine.kind, 3, 2))
            self.assertEqual(untouched(inside_of, machine, limits, one),
                             [k for k, limit in enumerate(limits) if lies(machine, limit, one)])
            self.assertEqual(untouched(joined, machine, limits),
                             [(state, limit) for state in machine.states()
                              for limit in limit_list(machine.kind, [told for name, told in limits if name == state])])


if __name__ == "__main__":
    unittest.main()
