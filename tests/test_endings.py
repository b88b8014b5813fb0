"""Points 8.2, 8.3 and longest of 8.5: whether all paths end."""

import random
import unittest

from helpers import kept, some_value, untouched
from lossbars.endings import ends, longest, within
from lossbars.errors import BadPosition, TooMany
from lossbars.machines import Machine, without
from lossbars.trees import depth, judge_ring, judge_ring_within, judge_tree, judge_tree_within
from machine_words import AB, COUNT, LANE, NONE, TALK, TILL, outcome, some_machine
from tree_words import DOWN, FORK, POUR, deepest, told_ends

HEAP = ("heap", AB)


def word_of(found):
    return found if found is TooMany else found[0]


class Ends(unittest.TestCase):

    def test_examples(self):
        self.assertEqual([ends(TILL, ("s", 0)), ends(DOWN, ("s", 5)), longest(DOWN, ("s", 5)), longest(TILL, ("s", 5))],
                         [("ring", (), (("up", 1),)), ("tree", ((None, None, 5), (0, "down", 3), (1, "down", 1))), 2, None])
        self.assertEqual([within(DOWN, ("s", 5), [("s", 2)]), within(DOWN, ("s", 1), [("s", 2)])],
                         [("tree", ((None, None, 5), (0, "down", 3))), ("tree", ())])

    def test_layer_by_layer(self):
        self.assertEqual(untouched(ends, POUR, ("s", (1, 1))), ("tree", (
            (None, None, (1, 1)), (0, "pour", (0, 2)), (0, "drop", (1, 0)), (1, "drop", (0, 1)), (2, "pour", (0, 1)),
            (3, "drop", (0, 0)), (4, "drop", (0, 0)))))
        self.assertEqual(untouched(ends, Machine(COUNT, ["s"], []), ("s", 7)), ("tree", ((None, None, 7),)))
        self.assertEqual(ends(FORK, ("p", 2)), ("tree", (
            (None, None, 2), (0, "left", 1), (0, "right", 1), (1, "left", 0), (1, "right", 0))))
        # All results of one rule, ascending.
        turn = Machine(LANE, ["s", "t"], [("turn", "s", ("any", ("turn", "a", "b")), "t")])
        self.assertEqual(ends(turn, ("s", ("a", "a"))), ("tree", ((None, None, ("a", "a")), (0, "turn", ("a", "b")), (0, "turn", ("b", "a")))))

    def test_rings(self):
        turn = Machine(LANE, ["p", "q", "r"], [
            ("eat", "p", ("receive", "a"), "q"), ("turn", "q", ("any", ("turn", "a", "b")), "r"), ("back", "r", ("any", ("turn", "b", "a")), "q")])
        self.assertEqual(untouched(ends, turn, ("p", ("a", "a"))), ("ring", (("eat", ("a",)),), (("turn", ("b",)), ("back", ("a",)))))
        # Of the knots that the child holds the one nearest to knot 0 is taken.
        more = Machine(COUNT, ["s", "t"], [("go", "s", ("take", 1), "t"), ("on", "t", ("stay",), "s"), ("up", "s", ("add", 3), "s")])
        self.assertEqual(ends(more, ("s", 1)), ("ring", (), (("up", 4),)))
        step = Machine(COUNT, ["s", "t", "u"], [("go", "s", ("take", 1), "t"), ("on", "t", ("take", 1), "u"), ("up", "u", ("add", 9), "s")])
        self.assertEqual(ends(step, ("s", 2)), ("ring", (), (("go", 1), ("on", 0), ("up", 9))))
        self.assertEqual(ends(without(step, ["go"]), ("t", 5)), ("tree", ((None, None, 5), (0, "on", 4), (1, "up", 13))))
        two = Machine(COUNT, ["s", "t"], [("a", "s", ("take", 1), "s"), ("b", "s", ("add", 1), "t"), ("c", "t", ("add", 1), "t")])
        # The child in s does not come back at once, those in t come back in the next layer.
        self.assertEqual(ends(two, ("s", 1)), ("ring", (("b", 2),), (("c", 3),)))

    def test_nearest_to_knot_0(self):
        lose = Machine(COUNT, ["s"], [("lose", "s", ("take", 1), "s"), ("win", "s", ("then", ("need", 0), ("set", 2)), "s")])
        # From 3 the ways go down; the first child that holds one of its branch is 2 of "win" below 2: all of 2, 1, 0 lie below.
        self.assertEqual(ends(lose, ("s", 3)), ("ring", (("lose", 2),), (("win", 2),)))
        part = Machine(("both", COUNT, COUNT), ["s"], [
            ("one", "s", ("then", ("first", ("take", 1)), ("second", ("set", 0))), "s"),
            ("all", "s", ("then", ("first", ("need", 0)), ("then", ("need", (0, 0)), ("set", (7, 0)))), "s")])
        found = ends(part, ("s", (2, 1)))
        self.assertEqual(found, told_ends(part, ("s", (2, 1))))
        # (7, 0) does not hold (2, 1), but (1, 0) and all that is behind it.
        self.assertEqual(found, ("ring", (("one", (1, 0)),), (("all", (7, 0)),)))

    def test_the_cap_of_knots(self):
        wide = Machine(("both", COUNT, COUNT), ["s"], [(name, "s", (part, ("take", 1)), "s") for name, part in (("a", "first"), ("b", "second"))])
        # From (n, 0) there are n and one knots.
        down = Machine(COUNT, ["s"], [("down", "s", ("take", 1), "s")])
        self.assertEqual(len(ends(down, ("s", 99))[1]), 100)
        self.assertEqual(kept(TooMany, ends, down, ("s", 99), knots=99), {})
        one_more = Machine(COUNT, ["s", "t"], down.rules() + [("end", "s", ("need", 99), "t")])
        self.assertEqual((longest(one_more, ("s", 98)), len(within(one_more, ("s", 99), [("s", 0)])[1])), (98, 100))
        for call, *more in [(ends,), (longest,), (within, [("s", 0), ("t", 0)])]:
            self.assertEqual(kept(TooMany, call, one_more, ("s", 99), *more), {})
        self.assertEqual(len(ends(down, ("s", 3), knots=4)[1]), 4)
        self.assertEqual(kept(TooMany, ends, down, ("s", 3), knots=3), {})
        self.assertEqual(len(ends(down, ("s", 0), knots=1)[1]), 1)
        self.assertEqual(len(ends(wide, ("s", (2, 2)))[1]), 19)
        self.assertEqual(len(ends(wide, ("s", (2, 2)), knots=19)[1]), 19)
        self.assertEqual(kept(TooMany, ends, wide, ("s", (2, 2)), knots=18), {})
        self.assertEqual(kept(TooMany, ends, wide, ("s", (9, 9))), {})
        self.assertEqual(kept(TooMany, longest, down, ("s", 3), knots=3), {})
        self.assertEqual(longest(down, ("s", 3), knots=4), 3)

    def test_a_ring_ahead_of_the_cap(self):
        many = Machine(LANE, ["s", "t"], [("turn", "s", ("any", ("turn", "a", "b")), "t"), ("up", "s", ("send", "a"), "s")])
        # The layer is not whole when the child of "up" comes back.
        self.assertEqual(ends(many, ("s", ("a",) * 4), knots=2), ("ring", (), (("up", ("a",) * 5),)))
        self.assertEqual(kept(TooMany, ends, without(many, ["up"]), ("s", ("a",) * 4), knots=4), {})
        self.assertEqual(len(ends(without(many, ["up"]), ("s", ("a",) * 4), knots=5)[1]), 5)

    def test_steps_may_raise_it(self):
        up = Machine(COUNT, ["s", "t", "u"], [("far", "s", ("add", 20), "t"), ("go", "s", ("stay",), "u"), ("on", "u", ("stay",), "u")])
        self.assertEqual(kept(TooMany, ends, up, ("s", 80)), {})
        self.assertEqual(ends(up, ("s", 79)), ("ring", (("go", 79),), (("on", 79),)))
        # All steps of a knot are made ahead of its first child, so none comes back there.
        loop = Machine(COUNT, ["s", "t"], [("stay", "s", ("stay",), "s"), ("far", "s", ("add", 20), "t")])
        self.assertEqual(kept(TooMany, ends, loop, ("s", 80)), {})
        self.assertEqual(ends(loop, ("s", 79)), ("ring", (), (("stay", 79),)))
        # A child of a knot ahead that comes back goes ahead of what a later knot raises.
        fork = Machine(COUNT, ["s", "t", "u"], [("one", "s", ("stay",), "t"), ("two", "s", ("stay",), "u"),
                                                ("loop", "t", ("stay",), "t"), ("far", "u", ("add", 20), "u")])
        self.assertEqual(ends(fork, ("s", 80)), ("ring", (("one", 80),), (("loop", 80),)))
        knots = Machine(COUNT, ["s", "t", "u"], [("two", "s", ("stay",), "u"), ("one", "s", ("stay",), "t"),
                                                 ("loop", "t", ("stay",), "t"), ("far", "u", ("add", 20), "u")])
        self.assertEqual(kept(TooMany, ends, knots, ("s", 80)), {})
        self.assertEqual(ends(knots, ("s", 79)), ("ring", (("two", 79),), (("far", 99),)))

    def test_wide_positions(self):
        self.assertEqual(longest(DOWN, ("s", 99)), 49)
        heaps = Machine(HEAP, ["s"], [("eat", "s", ("take", "a"), "s")])
        self.assertEqual(longest(heaps, ("s", ("a",) * 8)), 8)
        self.assertEqual(kept(TooMany, ends, TALK, ("p", ("b",) * 8)), {})
        self.assertEqual(ends(TALK, ("q", ("b",) * 8)), ("tree", ((None, None, ("b",) * 8),)))

    def test_wrong_ones(self):
        for value in NONE:
            for call in (ends, longest):
                self.assertEqual(kept(BadPosition, call, TILL, value), {"number": 0})
            self.assertEqual(kept(BadPosition, within, TILL, value, []), {"number": 0})
            self.assertEqual(kept(BadPosition, within, TILL, value, [("s", 1), ("s", 2)]), {"number": 2})
            self.assertEqual(kept(BadPosition, within, TILL, value, [("s", 1), value]), {"number": 1})

    def test_random_ones_by_the_words(self):
        words, some_kept = {}, 0
        for seed in range(700):
            draw = random.Random(seed)
            machine, _, some = some_machine(draw)
            position = (draw.choice(machine.states()), some_value(draw, machine.kind, 6, 3))
            knots = draw.choice([1, 3, 10, 100])
            told = outcome(told_ends, machine, position, None, knots)
            found = outcome(ends, machine, position, knots=knots)
            self.assertEqual(found, told)
            words[word_of(told)] = words.get(word_of(told), 0) + 1
            some = some + [(position[0], some_value(draw, machine.kind, 1, 1))]
            told = outcome(told_ends, machine, position, some, knots)
            self.assertEqual(outcome(within, machine, position, some, knots=knots), told)
            some_kept += told is not TooMany and told != ("tree", ()) and told != found
        self.assertGreater(min(words.values()), 30)
        self.assertGreater(some_kept, 30)

    def test_what_is_told_is_right(self):
        words = {"tree": 0, "ring": 0, TooMany: 0}
        for seed in range(500):
            draw = random.Random(seed)
            machine, _, some = some_machine(draw)
            position = (draw.choice(machine.states()), some_value(draw, machine.kind, 6, 3))
            found, far = outcome(ends, machine, position), outcome(longest, machine, position)
            words[word_of(found)] += 1
            if found is TooMany:
                self.assertIs(far, TooMany)
            elif found[0] == "tree":
                self.assertIsNone(judge_tree(machine, position, found[1]))
                self.assertIsNone(judge_tree_within(machine, position, some, found[1]))
                self.assertEqual(far, depth(found[1]))
                if len(found[1]) < 40:
                    self.assertEqual(deepest(machine, position, 9), min(far, 9))
            else:
                self.assertIsNone(judge_ring(machine, position, found[1:]))
                self.assertIsNone(far)
            some = some + [position]
            found = outcome(within, machine, position, some)
            if found is not TooMany and found[0] == "tree":
                self.assertIsNone(judge_tree_within(machine, position, some, found[1]))
                if len(found[1]) < 40:
                    self.assertEqual(deepest(machine, position, 9, some), min(depth(found[1]), 9))
            elif found is not TooMany:
                self.assertIsNone(judge_ring_within(machine, position, some, found[1:]))
                self.assertIsNone(judge_ring(machine, position, found[1:]))
        self.assertGreater(min(words["tree"], words["ring"]), 60)


class Within(unittest.TestCase):

    def test_words(self):
        self.assertEqual(untouched(within, TILL, ("s", 5), []), ("tree", ()))
        self.assertEqual(untouched(within, DOWN, ("s", 5), (("s", 5),)), ("tree", ((None, None, 5),)))
        self.assertEqual(within(TILL, ("s", 1), [("s", 1)]), ("ring", (), (("up", 2),)))
        self.assertEqual(within(FORK, ("p", 3), [("p", 1)]), ("tree", ((None, None, 3), (0, "left", 2), (1, "left", 1))))
        self.assertEqual(within(FORK, ("q", 3), [("p", 1)]), ("tree", ()))
        # What would be left out may still raise it.
        self.assertEqual(kept(TooMany, within, TILL, ("s", 99), [("s", 99)]), {})
        self.assertEqual(within(TILL, ("s", 99), [("s", 99), ("s", 100 - 1)][:0]), ("tree", ()))

    def test_the_cap_counts_what_is_kept(self):
        down = Machine(COUNT, ["s"], [("down", "s", ("take", 1), "s")])
        self.assertEqual(len(within(down, ("s", 9), [("s", 6)], knots=4)[1]), 4)
        self.assertEqual(kept(TooMany, within, down, ("s", 9), [("s", 6)], knots=3), {})
        self.assertEqual(len(within(down, ("s", 99), [("s", 0)])[1]), 100)


if __name__ == "__main__":
    unittest.main()
