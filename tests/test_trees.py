"""Points 8.1, 8.3 to 8.5: trees and rings, their judges, branch and depth."""

import random
import unittest

from helpers import kept, some_value, untouched
from lossbars.endings import ends, within
from lossbars.errors import BadPosition, TooMany
from lossbars.machines import Machine
from lossbars.trees import branch, depth, judge_ring, judge_ring_within, judge_tree, judge_tree_within
from machine_words import COUNT, NONE, STILL, TALK, TILL, changed, outcome, some_machine
from shield_words import PAPERS
from tree_words import DOWN, FORK, POUR, told_ends, told_ring, told_tree

WIDER = ((None, None, 6), (0, "down", 4), (1, "down", 2), (2, "down", 0))
UP = (("up", 5),)
# "far" leads to t and raises TooMany from 80 on.
HIGH = Machine(COUNT, ["s", "t"], [("far", "s", ("add", 20), "t"), ("down", "s", ("take", 1), "s")])


class Examples(unittest.TestCase):

    def test_them(self):
        self.assertEqual([judge_tree(DOWN, ("s", 5), WIDER), judge_tree(DOWN, ("s", 5), WIDER[:2]),
                          judge_tree(DOWN, ("s", 5), WIDER[:1] + WIDER[2:]), judge_tree(DOWN, ("s", 7), WIDER)],
                         [None, ("step", 1, "down", 2), ("knot", 1), ("knot", 0)])
        self.assertEqual([judge_ring(TILL, ("s", 4), ((("down", 2),), (("down", 0), ("up", 1), ("up", 2)))),
                          judge_ring(TILL, ("s", 4), ((), (("down", 2), ("up", 3)))), judge_ring(TILL, ("s", 4), ((), ()))],
                         [None, ("back",), ("round", ("form",))])
        self.assertEqual([judge_ring_within(TILL, ("s", 4), [("s", 1)], ((("down", 2),), (("down", 0), ("up", 1), ("up", 2)))),
                          branch(WIDER, 2), depth(WIDER)],
                         [("kept", 2), (("down", 4), ("down", 2)), 3])


class JudgeTree(unittest.TestCase):

    def test_form(self):
        for value in PAPERS + [list(WIDER), ()]:
            if not isinstance(value, tuple) or not value:
                self.assertEqual(judge_tree(DOWN, ("s", 5), value), ("form",))
                self.assertEqual(judge_tree_within(DOWN, ("s", 5), [("s", 5)], value), ("form",))
            else:
                self.assertEqual(judge_tree(DOWN, ("s", 5), value), ("knot", 0))

    def test_knot_0(self):
        for knot in [(None, None, 4), (None, None, True), (None, None, 100), (None, None, "a"), [None, None, 5], (None, None),
                     (None, None, 5, 5), (0, None, 5), (None, "down", 5), (None, 0, 5), (False, None, 5), 5, None]:
            self.assertEqual(untouched(judge_tree, DOWN, ("s", 5), (knot,) + WIDER[1:]), ("knot", 0))
        self.assertIsNone(judge_tree(DOWN, ("s", 5), ((None, None, 5), (0, "down", 3), (1, "down", 1))))
        self.assertEqual(judge_tree(TALK, ("q", ("a",)), ((None, None, ["a"]),)), ("knot", 0))
        self.assertEqual(judge_tree(TALK, ("q", ("a",)), ((None, None, ("b",)),)), ("knot", 0))
        self.assertIsNone(judge_tree(TALK, ("q", ("a",)), ((None, None, ("b", "a")),)))

    def test_other_knots(self):
        for knot in [(1, "down", 4), (-1, "down", 4), (False, "down", 4), (None, "down", 4), ("0", "down", 4), (0, "up", 4),
                     (0, "s", 4), (0, None, 4), (0, ["down"], 4), (0, "down", 100), (0, "down", -1), (0, "down", True),
                     (0, "down", None), (0, "down"), (0, "down", 4, 4), [0, "down", 4], 4, None, ()]:
            self.assertEqual(untouched(judge_tree, DOWN, ("s", 5), (WIDER[0], knot) + WIDER[2:]), ("knot", 1))
        self.assertEqual(judge_tree(DOWN, ("s", 5), WIDER + ((True, "down", 2),)), ("knot", 4))
        self.assertEqual(judge_tree(DOWN, ("s", 5), WIDER + ((4, "down", 2),)), ("knot", 4))
        # The rule begins in the state of the parent, and the knot stands in its end.
        tree = ((None, None, 1), (0, "right", 0), (1, "on", 0))
        self.assertEqual(judge_tree(FORK, ("p", 1), tree), ("step", 0, "left", 0))
        self.assertIsNone(judge_tree(FORK, ("p", 1), tree + ((0, "left", 0),)))
        self.assertEqual(judge_tree(FORK, ("p", 1), ((None, None, 1), (0, "right", 0), (1, "left", 0))), ("knot", 2))
        # All knots are looked at ahead of all steps.
        self.assertEqual(judge_tree(FORK, ("p", 2), ((None, None, 2), (0, "on", 1))), ("knot", 1))

    def test_steps(self):
        self.assertEqual(judge_tree(DOWN, ("s", 5), WIDER[:1]), ("step", 0, "down", 4))
        self.assertEqual(judge_tree(DOWN, ("s", 5), ((None, None, 5),) + ((0, "down", 2),)), ("step", 0, "down", 3))
        # A step may be held by any child, also one that stands last, and by one for several.
        tree = ((None, None, 5), (0, "down", 1), (0, "down", 3), (2, "down", 1))
        self.assertIsNone(judge_tree(DOWN, ("s", 5), tree))
        # A child of another knot, or of another rule, does not count.
        self.assertEqual(judge_tree(DOWN, ("s", 5), ((None, None, 5), (0, "down", 4), (0, "down", 2))), ("step", 1, "down", 2))
        self.assertEqual(judge_tree(FORK, ("p", 1), ((None, None, 1), (0, "left", 0), (0, "left", 0))), ("step", 0, "right", 0))
        # Children may be more than there are steps, they have steps of their own.
        self.assertEqual(judge_tree(TILL, ("s", 5), ((None, None, 5), (0, "up", 6), (0, "down", 3))), ("step", 1, "up", 7))
        self.assertEqual(judge_tree(STILL, ("p", 5), ((None, None, 6),)), None)

    def test_too_many(self):
        self.assertEqual(kept(TooMany, judge_tree, HIGH, ("s", 80), ((None, None, 80),)), {})
        self.assertEqual(judge_tree(HIGH, ("s", 80), ((None, None, 80), (0, "far", 100))), ("knot", 1))
        self.assertEqual(judge_tree(HIGH, ("s", 79), ((None, None, 79), (0, "far", 98))), ("step", 0, "far", 99))
        self.assertEqual(kept(TooMany, judge_tree, HIGH, ("s", 79), ((None, None, 80), (0, "far", 99), (0, "down", 99))), {})
        # The steps of a knot are asked whole, ahead of its first one; no fault of a knot ahead may stand.
        late = ((None, None, 79), (0, "down", 80), (0, "far", 98))
        self.assertEqual(judge_tree(HIGH, ("s", 79), late), ("step", 0, "far", 99))
        self.assertEqual(kept(TooMany, judge_tree, HIGH, ("s", 79), late[:2] + ((0, "far", 99),)), {})

    def test_wide_positions(self):
        tree = ((None, None, 99),) + tuple((k, "down", 97 - 2 * k) for k in range(49))
        self.assertIsNone(judge_tree(DOWN, ("s", 99), tree))
        self.assertEqual(depth(tree), 49)

    def test_kept_ones(self):
        tree = ((None, None, 5), (0, "down", 3))
        self.assertIsNone(untouched(judge_tree_within, DOWN, ("s", 5), [("s", 2)], tree))
        self.assertEqual(judge_tree_within(DOWN, ("s", 5), [("s", 1)], tree), ("step", 1, "down", 1))
        self.assertEqual(judge_tree_within(DOWN, ("s", 5), [("s", 9), ("s", 3)], tree[:1]), ("step", 0, "down", 3))
        self.assertIsNone(judge_tree_within(DOWN, ("s", 5), [("s", 4)], tree[:1]))
        # Knots may hold none themselves.
        self.assertIsNone(judge_tree_within(DOWN, ("s", 5), [("s", 4)], tree))
        self.assertIsNone(judge_tree_within(DOWN, ("s", 5), [("s", 9)], tree[:1]))
        # Where the position holds none, the empty tree is right, too.
        self.assertIsNone(judge_tree_within(DOWN, ("s", 5), [("s", 6)], ()))
        self.assertIsNone(judge_tree_within(DOWN, ("s", 5), (), ()))
        self.assertEqual(judge_tree_within(DOWN, ("s", 5), [("s", 5)], ()), ("form",))
        self.assertEqual(judge_tree_within(DOWN, ("s", 5), [("s", 6)], []), ("form",))
        self.assertEqual(judge_tree_within(DOWN, ("s", 5), [("s", 6)], ((None, None, 4),)), ("knot", 0))
        # What is kept is kept in its state.
        self.assertIsNone(judge_tree_within(FORK, ("p", 2), [("p", 2)], ((None, None, 2),)))
        self.assertEqual(judge_tree_within(FORK, ("p", 2), [("p", 2), ("q", 0)], ((None, None, 2),)), ("step", 0, "right", 1))
        # Steps are asked whole, so what would not be kept raises it, too.
        self.assertEqual(kept(TooMany, judge_tree_within, HIGH, ("s", 80), [("s", 80)], ((None, None, 80),)), {})


class JudgeRing(unittest.TestCase):

    def test_form(self):
        for value in PAPERS + [((),), ((), (), ()), [(), UP]]:
            if not isinstance(value, tuple) or len(value) != 2:
                self.assertEqual(judge_ring(TILL, ("s", 4), value), ("form",))
                self.assertEqual(judge_ring_within(TILL, ("s", 4), [], value), ("form",))

    def test_paths(self):
        ring = ((("down", 2),), (("down", 0), ("up", 1), ("up", 2)))
        self.assertIsNone(untouched(judge_ring, TILL, ("s", 4), ring))
        self.assertEqual(judge_ring(TILL, ("s", 4), ([], UP)), ("out", ("form",)))
        self.assertEqual(judge_ring(TILL, ("s", 4), (None, None)), ("out", ("form",)))
        self.assertEqual(judge_ring(TILL, ("s", 4), ((("down", 3),), 5)), ("out", ("row", 0)))
        self.assertEqual(judge_ring(TILL, ("s", 4), ((("up", 5), ("up", 7)), UP)), ("out", ("row", 1)))
        for again in ([], None, "up", {}, 5, [("up", 5)], ()):
            self.assertEqual(judge_ring(TILL, ("s", 4), ((), again)), ("round", ("form",)))
        self.assertIsNone(judge_ring(TILL, ("s", 4), (UP, UP)))
        self.assertEqual(judge_ring(TILL, ("s", 4), (UP, (("up", 7),))), ("round", ("row", 0)))
        self.assertEqual(judge_ring(TILL, ("s", 4), (UP, (("up", 6), ("down", 5)))), ("round", ("row", 1)))

    def test_back(self):
        self.assertIsNone(judge_ring(TILL, ("s", 4), ((), UP)))
        self.assertIsNone(judge_ring(TILL, ("s", 4), ((), (("up", 4),))))
        self.assertEqual(judge_ring(TILL, ("s", 4), ((), (("up", 3),))), ("back",))
        turn = Machine(COUNT, ["p", "q"], [("go", "p", ("add", 1), "q"), ("on", "q", ("add", 1), "p")])
        self.assertEqual(judge_ring(turn, ("p", 0), ((), (("go", 1),))), ("back",))
        self.assertIsNone(judge_ring(turn, ("p", 0), ((), (("go", 1), ("on", 0)))))
        self.assertIsNone(judge_ring(turn, ("p", 0), ((("go", 1),), (("on", 2), ("go", 1)))))
        self.assertEqual(judge_ring(turn, ("p", 0), ((("go", 1),), (("on", 0), ("go", 0)))), ("back",))

    def test_too_many(self):
        self.assertEqual(kept(TooMany, judge_ring, HIGH, ("s", 80), ((("far", 99),), ())), {})
        self.assertEqual(judge_ring(HIGH, ("s", 80), ((("far", 100),), ())), ("out", ("row", 0)))
        self.assertEqual(kept(TooMany, judge_ring, HIGH, ("s", 81), ((("down", 80),), (("far", 90),))), {})
        self.assertEqual(judge_ring(HIGH, ("s", 81), ((("down", 81),), (("far", 90),))), ("out", ("row", 0)))
        self.assertEqual(kept(TooMany, judge_ring_within, HIGH, ("s", 80), [], ((("far", 99),), ())), {})

    def test_kept_ones(self):
        ring = ((("down", 2),), (("down", 0), ("up", 1), ("up", 2)))
        for some, fault in [([("s", 0)], None), ([("s", 1)], ("kept", 2)), ([("s", 2)], ("kept", 2)), ([("s", 3)], ("kept", 1)),
                            ([("s", 5)], ("kept", 0)), ([], ("kept", 0)), ([("s", 3), ("s", 0)], None)]:
            self.assertEqual(untouched(judge_ring_within, TILL, ("s", 4), some, ring), fault)
        # Behind all else.
        self.assertEqual(judge_ring_within(TILL, ("s", 4), [], ((), (("up", 3),))), ("back",))
        self.assertEqual(judge_ring_within(TILL, ("s", 4), [], ((), ())), ("round", ("form",)))
        self.assertEqual(judge_ring_within(TILL, ("s", 4), [], ((("up", 9),), ())), ("out", ("row", 0)))
        self.assertEqual(judge_ring_within(TILL, ("s", 4), [("s", 4)], (UP, (("down", 3), ("up", 4), ("up", 5)))), ("kept", 2))
        self.assertEqual(judge_ring_within(TILL, ("s", 4), [("s", 4)], (UP, (("up", 6), ("down", 4)))), ("back",))
        self.assertEqual(judge_ring_within(TILL, ("s", 4), [("s", 5)], ((), (("up", 5), ("up", 6)))), ("kept", 0))


class Judges(unittest.TestCase):

    def test_wrong_positions(self):
        for value in NONE:
            for call in (judge_tree, judge_ring):
                self.assertEqual(kept(BadPosition, call, TILL, value, value), {"number": 0})
            for call in (judge_tree_within, judge_ring_within):
                self.assertEqual(kept(BadPosition, call, TILL, value, [("s", 1), ("s", 2)], ()), {"number": 2})
                self.assertEqual(kept(BadPosition, call, TILL, value, [("s", 1), value], None), {"number": 1})
                self.assertEqual(kept(BadPosition, call, TILL, value, [], ()), {"number": 0})

    def test_changed_trees_by_the_words(self):
        words = {}
        for seed in range(600):
            draw = random.Random(seed)
            machine, _, some = some_machine(draw)
            position = (draw.choice(machine.states()), some_value(draw, machine.kind, 6, 3))
            some = some + [position][:draw.randint(0, 1)]
            for keeps in (None, some):
                found = outcome(told_ends, machine, position, keeps)
                if found is TooMany:
                    continue
                every = outcome(told_ends, machine, position)
                papers = [each[1] if each[0] == "tree" else each[1:] for each in (found, every) if each is not TooMany]
                for _ in range(4):
                    papers.append(self.lesser(draw, draw.choice(papers)))
                for value in papers:
                    self.same(words, told_tree, (judge_tree, judge_tree_within)[keeps is not None], machine, position, keeps, value)
                    self.same(words, told_ring, (judge_ring, judge_ring_within)[keeps is not None], machine, position, keeps, value)
        for word in (None, "form", "knot", "step", "out", "round", "kept"):
            self.assertGreater(words.get(word, 0), 15, word)

    def lesser(self, draw, value):
        """A paper with some part changed, or with a number in it one more or less."""
        if draw.random() < 0.5 or not isinstance(value, tuple):
            return changed(draw, value)
        k = draw.randrange(len(value)) if value else 0
        if value and isinstance(value[k], tuple):
            return value[:k] + (self.lesser(draw, value[k]),) + value[k + 1:]
        return tuple(part + draw.choice([-1, 1]) if type(part) is int and draw.random() < 0.7 else part for part in value)

    def same(self, words, told, call, machine, position, some, value):
        wanted = outcome(told, machine, position, value, some)
        given = (machine, position, value) if some is None else (machine, position, some, value)
        self.assertEqual(outcome(call, *given), wanted)
        word = wanted if wanted is None or wanted is TooMany else wanted[0]
        words[word] = words.get(word, 0) + 1

    def test_a_tree_of_all_is_one_of_some(self):
        looked = 0
        for seed in range(300):
            draw = random.Random(seed)
            machine, _, some = some_machine(draw)
            position = (draw.choice(machine.states()), some_value(draw, machine.kind, 6, 3))
            found, less = outcome(ends, machine, position), outcome(within, machine, position, some + [position])
            if found is not TooMany and found[0] == "tree":
                self.assertIsNone(judge_tree_within(machine, position, some, found[1]))
                looked += 1
            if less is not TooMany and less[0] == "ring":
                self.assertIsNone(judge_ring(machine, position, less[1:]))
                looked += 1
        self.assertGreater(looked, 150)


class BranchAndDepth(unittest.TestCase):

    def test_words(self):
        tree = ends(POUR, ("s", (1, 1)))[1]
        self.assertEqual([branch(tree, k) for k in (0, 1, 2, 5)],
                         [(), (("pour", (0, 2)),), (("drop", (1, 0)),), (("pour", (0, 2)), ("drop", (0, 1)), ("drop", (0, 0)))])
        self.assertEqual(depth(tree), 3)
        self.assertEqual([depth(()), depth(((None, None, 5),)), branch(((None, None, 5),), 0)], [0, 0, ()])
        # The longest branch need not be that of the last knot.
        self.assertEqual(depth(WIDER + ((0, "down", 3),)), 3)
        self.assertEqual(branch(WIDER + ((0, "down", 3),), 4), (("down", 3),))


if __name__ == "__main__":
    unittest.main()
