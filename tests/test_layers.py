"""Point 5.6: layers, and the way back through them."""

import random
import unittest

from helpers import kept, universe, untouched
from limit_words import A, ALL, B, bag, often, once, row, to
from machine_words import AB, COUNT, LANE, NONE, STILL, TALK, TILL, come_of, holds_some, lies, outcome, some_machine
from act_words import told_back
from lossbars.errors import BadPosition, TooMany
from lossbars.forward import forth_list
from lossbars.layers import layers, way_to
from lossbars.limits import everything
from lossbars.machines import Machine, inside_of, is_position, joined
from lossbars.runs import judge_path, stand_of

HEAP = ("heap", COUNT)


def doubling(many):
    """A heap of so many kinds of numbers, each of which may grow: the layers become many soon."""
    start = bag([to(10 * k) for k in range(many)], [])
    return Machine(HEAP, ["s"], [("grow", "s", ("any", ("add", 1)), "s")]), [("s", start)]


class Layers(unittest.TestCase):

    def test_examples(self):
        self.assertEqual(layers(TILL, [("s", ("to", 1))], 2), [[("s", ("to", 1))], [("s", ("to", 2))], [("s", ("to", 3))]])
        self.assertEqual([way_to(TILL, [("s", ("to", 1))], 2, ("s", 4)), judge_path(TILL, ("s", 1), (("up", 2), ("up", 3)))],
                         [None, None])

    def test_lists(self):
        some = [("p", row(often(A))), ("p", row(once(A))), ("q", row())]
        self.assertEqual(untouched(layers, TALK, some, 0), [[("p", row(often(A))), ("q", row())]])
        self.assertEqual(untouched(layers, TALK, some, 1), [
            [("p", row(often(A))), ("q", row())], [("p", row(often(A), once(B), often(A)))]])
        self.assertEqual(layers(TALK, [("p", row(once(B)))], 2), [
            [("p", row(once(B)))], [("p", row(once(B), once(A))), ("q", row())],
            [("p", row(once(B), once(A), once(A))), ("p", row(once(B), once(B))), ("q", row(once(A)))]])

    def test_what_is_there_goes_on_or_is_gone(self):
        # By just so many rules: what a layer has need not be in the next one.
        flip = Machine(AB, ["p", "q"], [("go", "p", ("turn", "a", "b"), "q"), ("back", "q", ("turn", "b", "a"), "p")])
        self.assertEqual(untouched(layers, flip, [("p", A)], 3), [[("p", A)], [("q", B)], [("p", A)], [("q", B)]])
        self.assertEqual(layers(flip, [("p", B)], 2), [[("p", B)], [], []])

    def test_no_starts_no_rules(self):
        self.assertEqual(untouched(layers, TILL, [], 3), [[], [], [], []])
        self.assertEqual(untouched(layers, STILL, [("q", ALL), ("p", to(3))], 2), [[("p", to(3)), ("q", ALL)], [], []])
        self.assertIsNone(way_to(STILL, [("q", ALL)], 1, ("q", 0)))

    def test_k_of_16(self):
        found = untouched(layers, TILL, [("s", to(0))], 16)
        self.assertEqual(found, [[("s", to(k))] for k in range(17)])
        self.assertEqual(len({id(layer) for layer in found}), 17)
        still = layers(TILL, [("s", ALL)], 16)
        self.assertEqual(still, [[("s", ALL)]] * 17)
        still[0].append(5)
        self.assertEqual(still[1:], [[("s", ALL)]] * 16)

    def test_they_are_new_ones(self):
        starts = [("s", to(0))]
        found = layers(TILL, starts, 1)
        found[0].append(7)
        self.assertEqual((starts, layers(TILL, starts, 1)), ([("s", to(0))], [[("s", to(0))], [("s", to(1))]]))

    def test_the_cap(self):
        machine, starts = doubling(4)
        found = layers(machine, starts, 2)
        self.assertEqual([len(layer) for layer in found], [1, 4, 10])
        self.assertEqual(layers(machine, starts, 2, limits=10), found)
        self.assertEqual(kept(TooMany, layers, machine, starts, 2, limits=9), {})
        self.assertEqual(layers(machine, starts, 1, limits=4), found[:2])
        self.assertEqual(kept(TooMany, layers, machine, starts, 1, limits=3), {})
        self.assertEqual(way_to(machine, starts, 1, ("s", (99,)), limits=4), None)
        self.assertEqual(kept(TooMany, way_to, machine, starts, 1, ("s", (99,)), limits=3), {})
        # F(0), too, of all states together, in its one form.
        some = [("p", to(3)), ("q", to(3)), ("p", to(2))]
        self.assertEqual(layers(STILL, some, 0, limits=2), [[("p", to(3)), ("q", to(3))]])
        self.assertEqual(kept(TooMany, layers, STILL, some, 0, limits=1), {})
        self.assertEqual(kept(TooMany, layers, STILL, some, 1, limits=1), {})

    def test_60_limits_and_61(self):
        pairs = ("both", COUNT, COUNT)
        machine = Machine(pairs, ["s"], [("go", "s", ("set", (5, 5)), "s")])
        for many in (60, 61):
            starts = [("s", ("pair", to(k), to(many - k))) for k in range(many)]
            if many == 60:
                self.assertEqual(layers(machine, starts, 1), [starts, [("s", ("pair", to(5), to(5)))]])
                self.assertEqual(way_to(machine, starts, 1, ("s", (5, 4))), (0, ("s", (0, 0)), (("go", (5, 4)),)))
            else:
                self.assertEqual(kept(TooMany, layers, machine, starts, 1), {})
                self.assertEqual(kept(TooMany, way_to, machine, starts, 1, ("s", (5, 4))), {})
                self.assertEqual(kept(TooMany, way_to, machine, starts, 0, ("s", (99, 99))), {})

    def test_forth_may_raise_it(self):
        self.assertEqual(kept(TooMany, layers, TILL, [("s", to(99))], 1), {})
        self.assertEqual(layers(TILL, [("s", to(99))], 0), [[("s", to(99))]])
        self.assertEqual(layers(TILL, [("s", to(97))], 2)[2], [("s", to(99))])
        self.assertEqual(kept(TooMany, layers, TILL, [("s", to(97))], 3), {})
        self.assertEqual(kept(TooMany, way_to, TILL, [("s", to(99))], 1, ("s", 0)), {})
        # Only of rules that begin there.
        self.assertEqual(layers(TALK, [("q", row(*[once(A), once(B)] * 8 + [once(A)]))], 1)[1], [])

    def test_wrong_ones(self):
        for value in NONE + [("s", 1)]:
            self.assertEqual(kept(BadPosition, layers, TILL, [("s", ALL), value, value], 2), {"number": 1})
            self.assertEqual(kept(BadPosition, way_to, TILL, [("s", ALL), value], 2, value), {"number": 1})
        for value in NONE:
            self.assertEqual(kept(BadPosition, way_to, TILL, [("s", ALL), ("s", to(99))], 2, value), {"number": 2})
            self.assertEqual(kept(BadPosition, way_to, TILL, [], 0, value), {"number": 0})
        self.assertEqual(kept(BadPosition, way_to, TILL, [("s", to(99))], 2, ("s", 100)), {"number": 1})

    def test_they_are_what_forth_tells(self):
        for seed in range(150):
            draw = random.Random(seed)
            machine, starts, _ = some_machine(draw)
            found = outcome(layers, machine, starts, 3)
            told = [joined(machine, starts)]
            for _ in range(3):
                came = [(end, limit) for state, one in told[-1] for _, begin, act, end in machine.rules() if begin == state
                        for limit in forth_list(machine.kind, act, [one])]
                told.append(joined(machine, came))
            if max(len(layer) for layer in told) > 60:
                self.assertIs(found, TooMany)
            else:
                self.assertEqual(found, told)

    def test_by_plain_search(self):
        asked = {}
        for sort, number, length, more in [(COUNT, 6, 0, 40), (LANE, 0, 2, 6), (("heap", AB), 0, 2, 7), (("both", COUNT, AB), 3, 0, 25)]:
            values = universe(sort, number, length)
            all_values = universe(sort, more, more)
            for seed in range(40):
                draw = random.Random(seed)
                machine, starts, _ = some_machine(draw, sort=sort)
                first = [(state, v) for state in machine.states() for v in all_values]
                first = [one for one in first if any(lies(machine, start, one) for start in starts)]
                for k, layer in enumerate(layers(machine, starts, 2)):
                    came = come_of(machine, first, k)
                    for one in [(state, v) for state in machine.states() for v in values]:
                        there = any(lies(machine, limit, one) for limit in layer)
                        self.assertIs(any(holds_some(machine, other, [one]) for other in came), there, (seed, k, one))
                        asked[there] = asked.get(there, 0) + 1
        self.assertGreater(min(asked[True], asked[False]), 500)


class Ways(unittest.TestCase):

    def test_ways(self):
        self.assertEqual(way_to(TILL, [("s", to(1)), ("s", to(5))], 0, ("s", 3)), (1, ("s", 3), ()))
        self.assertEqual(way_to(TILL, [("s", to(1))], 2, ("s", 3)), (0, ("s", 1), (("up", 2), ("up", 3))))
        self.assertEqual(way_to(TALK, [("q", row()), ("p", row(often(A)))], 3, ("q", ("a",))),
                         (1, ("p", ("a",)), (("spoil", ("b",)), ("ask", ("b", "a")), ("hear", ("a",)))))

    def test_the_first_rule_and_the_first_value(self):
        machine = Machine(COUNT, ["p", "q"], [("b", "q", ("add", 2), "q"), ("a", "p", ("add", 1), "q"), ("c", "q", ("set", 9), "q")])
        self.assertEqual(way_to(machine, [("p", ALL), ("q", ALL)], 1, ("q", 5)), (1, ("q", 3), (("b", 5),)))
        self.assertEqual(way_to(machine, [("p", ALL), ("q", to(2))], 1, ("q", 5)), (0, ("p", 4), (("a", 5),)))
        self.assertEqual(way_to(machine, [("q", to(2))], 1, ("q", 5)), (0, ("q", 0), (("c", 5),)))
        self.assertIsNone(way_to(machine, [("q", to(2))], 1, ("q", 10)))

    def test_back_may_raise_it(self):
        # The first rule's back passes the bounds; it is only asked if it is looked at.
        machine = Machine(COUNT, ["s"], [("a", "s", ("take", 20), "s"), ("b", "s", ("add", 1), "s")])
        turned = Machine(COUNT, ["s"], [("b", "s", ("add", 1), "s"), ("a", "s", ("take", 20), "s")])
        starts = [("s", ALL)]
        self.assertEqual(kept(TooMany, way_to, machine, starts, 1, ("s", 80)), {})
        self.assertEqual(way_to(machine, starts, 1, ("s", 79)), (0, ("s", 99), (("a", 79),)))
        self.assertEqual(way_to(turned, starts, 1, ("s", 80)), (0, ("s", 79), (("b", 80),)))
        self.assertEqual(kept(TooMany, way_to, machine, starts, 2, ("s", 60)), {})
        self.assertEqual(way_to(machine, starts, 2, ("s", 59)), (0, ("s", 99), (("a", 79), ("a", 59))))
        # Layers go ahead, and what is not there is not looked for.
        self.assertIsNone(way_to(machine, [("s", to(50))], 1, ("s", 80)))

    def test_random_ones(self):
        found_some = 0
        for seed in range(300):
            draw = random.Random(seed)
            machine, starts, bad = some_machine(draw)
            k = draw.randint(0, 3)
            for position in bad:
                found = outcome(way_to, machine, starts, k, position)
                self.assertEqual(found, outcome(way_by_words, machine, starts, k, position), (seed, position))
                if found is not None and found is not TooMany:
                    found_some += 1
                    number, first, path = found
                    self.assertTrue(is_position(machine, first) and isinstance(path, tuple) and len(path) == k)
                    self.assertEqual(number, inside_of(machine, starts, first)[0])
                    self.assertIsNone(judge_path(machine, first, path))
                    self.assertEqual(stand_of(machine, first, path), position)
        self.assertGreater(found_some, 50)

    def test_everything(self):
        starts = [("s", limit) for limit in everything(COUNT)]
        self.assertEqual(untouched(way_to, TILL, starts, 16, ("s", 67)),
                         (0, ("s", 51), tuple(("up", 52 + k) for k in range(16))))


def way_by_words(machine, starts, k, position):
    """The way by the words of [5.6]."""
    made = layers(machine, starts, k)
    if not any(lies(machine, limit, position) for limit in made[k]):
        return None
    rows = []
    for j in range(k, 0, -1):
        name, before = first_back(machine, made[j - 1], position)
        rows.append((name, position[1]))
        position = before
    number = [lies(machine, start, position) for start in starts].index(True)
    return number, position, tuple(rows[::-1])


def first_back(machine, layer, position):
    for name, begin, act, end in machine.rules():
        for b in told_back(machine.kind, act, position[1]) if end == position[0] else []:
            if any(lies(machine, limit, (begin, b)) for limit in layer):
                return name, (begin, b)
    raise AssertionError("nothing leads there")


if __name__ == "__main__":
    unittest.main()
