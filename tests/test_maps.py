"""Points 9.1 to 9.3: maps."""

import random
import unittest

from act_words import some_act, told_results
from helpers import above, inside, kept, least, least_values_of, some_limit, some_sort, some_value, universe, untouched
from limit_words import A, ALL, B, C, bag, often, once, pair, row, to
from lossbars.acts import check_act
from lossbars.bars import judge_bar
from lossbars.errors import TooMany
from lossbars.leasts import is_in, is_least
from lossbars.limits import is_limit, shaped
from lossbars.machines import Machine
from lossbars.maps import (
    led_act,
    led_back,
    led_bar,
    led_limit,
    led_machine,
    led_positions,
    led_run,
    led_sort,
    led_starts,
    led_value,
)
from lossbars.rounds import decide
from lossbars.runs import judge_run
from lossbars.sorts import check_sort
from lossbars.values import is_value
from machine_words import AB, COUNT, LANE, TALK, outcome, some_machine
from map_words import maps_of, sources, told_act, told_back, told_choices, told_led_limit, told_sort, told_value

MARK = ("mark", ("a", "b", "c"))
PAIR = ("both", ("heap", MARK), ("lane", MARK))
HEAPED, COUNTED = ("heaped", ()), ("counted", ())
ONE = ("mark", ("a",))


class Sorts(unittest.TestCase):

    def test_examples(self):
        self.assertEqual([led_sort(MARK, ("merged", (), (("a", "c"),))), led_sort(PAIR, ("dropped", (), 0)),
                          led_sort(PAIR, ("counted", (1,)))],
                         [("mark", ("c", "b")), ("lane", MARK), ("both", COUNT, ("lane", MARK))])
        self.assertEqual([led_value(PAIR, ("heaped", (2,)), (("a",), ("b", "a"))),
                          led_act(PAIR, ("counted", (1,)), ("first", ("any", ("turn", "a", "b")))),
                          led_act(PAIR, ("heaped", (2,)), ("second", ("receive", "b")))],
                         [(("a",), ("a", "b")), ("first", ("need", 1)), ("second", ("take", "b"))])
        self.assertEqual([led_back(PAIR[2], HEAPED, [("a", "a", "b")]), led_back(PAIR, ("dropped", (), 0), [("c",)]),
                          led_back(PAIR[1], COUNTED, [1])],
                         [[("a", "a", "b"), ("a", "b", "a"), ("b", "a", "a")], [((), ("c",))], [("a",), ("b",), ("c",)]])
        self.assertEqual(led_limit(PAIR[2], HEAPED, row(once(B), often(A))), bag([B], [A]))

    def test_places_within(self):
        deep = ("either", COUNT, ("lane", ("both", ("heap", AB), ("lane", MARK))))
        for change, led, v, w in [
                (("heaped", (2, 1, 2)), ("either", COUNT, ("lane", ("both", ("heap", AB), ("heap", MARK)))),
                 ("right", ((("a",), ("b", "a")), ((), ("c", "b", "c")))), ("right", ((("a",), ("a", "b")), ((), ("b", "c", "c"))))),
                (("counted", (2, 1, 1)), ("either", COUNT, ("lane", ("both", COUNT, ("lane", MARK)))),
                 ("right", ((("a", "b"), ("b",)), ((), ()))), ("right", ((2, ("b",)), (0, ())))),
                (("dropped", (2, 1), 0), ("either", COUNT, ("lane", ("lane", MARK))),
                 ("right", ((("a", "b"), ("b",)), ((), ()))), ("right", (("b",), ()))),
                (("dropped", (2, 1), 1), ("either", COUNT, ("lane", ("heap", AB))), ("right", ((("b",), ("b",)),)), ("right", (("b",),))),
                (("merged", (2, 1, 1, 1), (("a", "x"), ("b", "x"))),
                 ("either", COUNT, ("lane", ("both", ("heap", ("mark", ("x",))), ("lane", MARK)))),
                 ("right", ((("a", "b"), ("a",)),)), ("right", ((("x", "x"), ("a",)),))),
                (("heaped", (2,)), ("either", COUNT, ("heap", deep[2][1])), ("right", ((("b",), ()), ((), ("a",)))),
                 ("right", (((), ("a",)), (("b",), ())))),
                (("counted", (2,)), ("either", COUNT, COUNT), ("right", (((), ()),) * 3), ("right", 3))]:
            self.assertEqual(untouched(led_sort, deep, change), led)
            self.assertEqual(untouched(led_value, deep, change, v), w)
            self.assertEqual(led_value(deep, change, ("left", 5)), ("left", 5))

    def test_merged_letters(self):
        for pairs, letters, values in [((), ("a", "b", "c"), "abc"), ((("b", "a"),), ("a", "c"), "aac"), ((("a", "b"), ("b", "a")), ("b", "a", "c"), "bac"),
                                       ((("c", "a"), ("b", "a")), ("a",), "aaa"), ((("a", "x"),), ("x", "b", "c"), "xbc"), ((("b", "c"),), ("a", "c"), "acc")]:
            change = ("merged", (), pairs)
            self.assertEqual(led_sort(MARK, change), ("mark", letters))
            self.assertEqual([led_value(MARK, change, letter) for letter in "abc"], list(values))
        # A heap stands in the order of the new letters.
        swap = ("merged", (1,), (("a", "z"), ("b", "a"), ("c", "z")))
        self.assertEqual(led_sort(("heap", MARK), swap), ("heap", ("mark", ("z", "a"))))
        self.assertEqual(led_value(("heap", MARK), swap, ("a", "b", "c")), ("z", "z", "a"))

    def test_random_ones_by_the_words(self):
        words = {}
        for seed in range(300):
            draw = random.Random(seed)
            sort = some_sort(draw, 4, 3)
            for change in maps_of(draw, sort):
                led = led_sort(sort, change)
                check_sort(led)
                self.assertEqual(led, told_sort(sort, change))
                v, u = (some_value(draw, sort, 3, 3) for _ in range(2))
                for value in (v, u):
                    self.assertEqual(led_value(sort, change, value), told_value(sort, change, value))
                    self.assertTrue(is_value(led, led_value(sort, change, value)))
                words[change[0]] = words.get(change[0], 0) + 1
        self.assertGreater(min(words.values()), 50)

    def test_what_holds_is_led_to_what_holds(self):
        held = 0
        for sort in [("lane", AB), ("heap", ("both", AB, COUNT)), ("both", ("lane", AB), ("heap", AB)), ("either", ("lane", AB), MARK),
                     ("lane", ("lane", AB)), ("heap", ("lane", AB)), ("lane", ("either", AB, COUNT))]:
            draw = random.Random(5)
            each = draw.sample(universe(sort, 1, 2), min(40, len(universe(sort, 1, 2))))
            for change in maps_of(draw, sort):
                led = [led_value(sort, change, v) for v in each]
                for k, v in enumerate(each):
                    for j, u in enumerate(each):
                        if above(sort, v, u):
                            self.assertTrue(above(led_sort(sort, change), led[k], led[j]))
                            held += 1
        self.assertGreater(held, 2000)


class Limits(unittest.TestCase):

    def test_words(self):
        lane = ("lane", MARK)
        for change, limit, led in [
                (HEAPED, row(once(C), often(A), once(B), once(C)), bag([B, C, C], [A])),
                (HEAPED, row(often(A), once(B), often(C), once(A)), bag([B], [A, C])),
                (HEAPED, row(), bag([], [])),
                (COUNTED, row(once(C), once(A)), to(2)), (COUNTED, row(), to(0)), (COUNTED, row(once(A), often(B)), ALL),
                (("merged", (1,), (("a", "b"),)), row(once(A), often(B)), row(often(B))),
                (("merged", (1,), (("c", "a"),)), row(often(A, B), once(C)), row(often(A, B))),
                (("merged", (1,), (("c", "x"), ("a", "x"))), row(once(A), once(C)), row(once(("is", "x")), once(("is", "x"))))]:
            self.assertEqual(untouched(led_limit, lane, change, limit), led)
        heap = ("heap", ("both", AB, COUNT))
        self.assertEqual(led_limit(heap, COUNTED, bag([pair(A, to(1))] * 3, [])), to(3))
        self.assertEqual(led_limit(heap, COUNTED, bag([], [pair(A, to(1))])), ALL)
        self.assertEqual(led_limit(heap, ("dropped", (1,), 0), bag([pair(A, to(5)), pair(B, to(2)), pair(B, to(3))], [pair(A, to(2))])),
                         bag([to(3), to(5)], [to(2)]))
        self.assertEqual(led_limit(heap, ("dropped", (1,), 1), bag([pair(B, to(9))], [pair(A, ALL)])), bag([B], [A]))
        self.assertEqual(led_limit(PAIR, ("dropped", (), 1), pair(bag([A], []), row(once(A)))), bag([A], []))
        self.assertEqual(led_limit(("either", LANE, LANE), ("counted", (2,)), ("right", row(once(A)))), ("right", to(1)))
        self.assertEqual(led_limit(("either", LANE, LANE), ("counted", (2,)), ("left", row(once(A)))), ("left", row(once(A))))

    def test_nine_onces(self):
        lane = ("lane", MARK)
        self.assertEqual(led_limit(lane, HEAPED, row(*[once(A)] * 8)), bag([A] * 8, []))
        self.assertEqual(kept(TooMany, led_limit, lane, HEAPED, row(*[once(A)] * 9)), {})
        # In its one form it is short enough.
        many = row(once(B), often(A), *[once(B)] * 7, often(C))
        self.assertEqual(led_limit(lane, HEAPED, many), bag([B] * 8, [A, C]))
        self.assertEqual(kept(TooMany, led_limit, lane, HEAPED, row(*many[1], once(B))), {})
        self.assertEqual(led_limit(lane, HEAPED, row(*[once(B), once(A)] * 7, often(A))), bag([B] * 7, [A]))
        self.assertEqual(led_limit(lane, COUNTED, row(*[once(A), once(B)] * 8)), to(16))
        # What is too great within another limit may be swallowed there.
        deep = ("lane", ("lane", AB))
        inner, all_of_a = row(*[once(A)] * 9), row(often(A))
        self.assertEqual(kept(TooMany, led_limit, deep, ("heaped", (1,)), row(once(inner))), {})
        self.assertEqual(led_limit(deep, ("heaped", (1,)), row(often(all_of_a))), row(often(bag([], [A]))))
        mixed = row(often(row(often(B), often(A))), once(row(*[once(A), once(B)] * 5)))
        self.assertEqual(led_limit(deep, ("heaped", (1,)), mixed), row(often(bag([], [A, B]))))
        states = Machine(lane, ["p", "q"], [])
        self.assertEqual(kept(TooMany, led_starts, states, HEAPED, [("p", row()), ("q", row(*[once(A)] * 9))]), {})

    def test_random_ones(self):
        looked = {True: 0, False: 0}
        for seed in range(400):
            draw = random.Random(seed)
            sort = some_sort(draw, 3, 2)
            for change in maps_of(draw, sort):
                limit = shaped(sort, some_limit(draw, sort, 2, 2))
                led, sort_led = untouched(led_limit, sort, change, limit), led_sort(sort, change)
                self.assertEqual(led, told_led_limit(sort, change, limit))
                self.assertTrue(is_limit(sort_led, led))
                each = universe(sort, 2, 2)
                for v in draw.sample(each, min(25, len(each))):
                    if inside(sort, limit, v):
                        self.assertTrue(inside(sort_led, led, led_value(sort, change, v)))
                        looked[True] += 1
                # What lies inside is what a least value inside is led to.
                below = universe(sort_led, 2, 2)
                for w in draw.sample(below, min(8, len(below))):
                    there = any(inside(sort, limit, v) for v in sources(sort, change, w))
                    self.assertIs(inside(sort_led, led, w), there)
                    looked[False] += 1
        self.assertGreater(min(looked.values()), 3000)


class Acts(unittest.TestCase):

    def test_words(self):
        lane, heap = ("lane", MARK), ("heap", MARK)
        act = ("any", ("turn", "a", "b"))
        for sort, change, told, led in [
                (lane, HEAPED, ("receive", "a"), ("take", "a")), (lane, HEAPED, ("send", "a"), ("put", "a")), (lane, HEAPED, act, act),
                (lane, HEAPED, ("need", ("c", "a")), ("need", ("a", "c"))), (lane, HEAPED, ("set", ("b", "a")), ("set", ("a", "b"))),
                (lane, HEAPED, ("then", ("send", "a"), ("or", ("stay",), ("receive", "b"))), ("then", ("put", "a"), ("or", ("stay",), ("take", "b")))),
                (lane, COUNTED, ("send", "c"), ("add", 1)), (lane, COUNTED, ("receive", "c"), ("take", 1)), (lane, COUNTED, act, ("need", 1)),
                (heap, COUNTED, ("put", "c"), ("add", 1)), (heap, COUNTED, ("take", "c"), ("take", 1)), (heap, COUNTED, act, ("need", 1)),
                (heap, COUNTED, ("need", ("a", "a")), ("need", 2)), (heap, COUNTED, ("set", ()), ("set", 0)),
                (heap, COUNTED, ("then", ("put", "a"), ("stay",)), ("then", ("add", 1), ("stay",))),
                (PAIR, ("dropped", (), 0), ("first", ("put", "a")), ("stay",)), (PAIR, ("dropped", (), 0), ("second", ("send", "a")), ("send", "a")),
                (PAIR, ("dropped", (), 1), ("second", act), ("stay",)), (PAIR, ("dropped", (), 1), ("first", act), act),
                (PAIR, ("dropped", (), 1), ("need", (("a",), ("b",))), ("need", ("a",))),
                (PAIR, ("dropped", (), 0), ("or", ("first", ("put", "a")), ("first", ("put", "b"))), ("or", ("stay",), ("stay",))),
                (MARK, ("merged", (), (("a", "b"),)), ("turn", "a", "b"), ("stay",)),
                (MARK, ("merged", (), (("a", "b"), ("b", "a"))), ("turn", "a", "b"), ("turn", "b", "a")),
                (MARK, ("merged", (), (("a", "x"), ("b", "x"))), ("turn", "c", "a"), ("turn", "c", "x")),
                (MARK, ("merged", (), (("a", "x"), ("b", "x"))), ("turn", "a", "b"), ("stay",)),
                (MARK, ("merged", (), (("a", "x"),)), ("set", "a"), ("set", "x")),
                (lane, ("merged", (1,), (("a", "b"),)), act, ("any", ("stay",))),
                (lane, ("merged", (1,), (("a", "x"),)), ("send", "a"), ("send", "x")),
                (lane, ("merged", (1,), (("a", "x"),)), ("receive", "a"), ("receive", "x")),
                (heap, ("merged", (1,), (("a", "x"),)), ("put", "a"), ("put", "x")),
                (PAIR, ("heaped", (2,)), ("first", ("take", "b")), ("first", ("take", "b"))),
                (PAIR, ("counted", (2,)), ("second", ("then", ("send", "a"), ("receive", "b"))), ("second", ("then", ("add", 1), ("take", 1)))),
                (("either", COUNT, lane), ("counted", (2,)), ("left", ("add", 3)), ("left", ("add", 3))),
                (("either", COUNT, lane), ("counted", (2,)), ("right", ("send", "a")), ("right", ("add", 1))),
                (("either", COUNT, lane), ("counted", (2,)), ("set", ("right", ("a",))), ("set", ("right", 1))),
                (("lane", lane), ("counted", (1,)), ("send", ("a", "b")), ("send", 2)),
                (("lane", lane), ("counted", (1,)), ("any", ("any", ("stay",))), ("any", ("need", 1))),
                (("heap", lane), ("heaped", (1,)), ("take", ("b", "a")), ("take", ("a", "b")))]:
            self.assertEqual(untouched(led_act, sort, change, told), led)

    def test_random_ones_by_the_words(self):
        looked = 0
        for seed in range(500):
            draw = random.Random(seed)
            sort = some_sort(draw, 4, 2)
            for change in maps_of(draw, sort):
                act, led = some_act(draw, sort, 3), led_sort(sort, change)
                found = untouched(led_act, sort, change, act)
                self.assertEqual(found, told_act(sort, change, act))
                check_act(led, found)
                # What comes of a value is led to what is held by something that comes of the led one.
                v = some_value(draw, sort, 4, 3)
                came = told_results(led, found, led_value(sort, change, v))
                for result in told_results(sort, act, v):
                    self.assertTrue(any(above(led, each, told_value(sort, change, result)) for each in came))
                    looked += 1
        self.assertGreater(looked, 500)


class Machines(unittest.TestCase):

    def test_words(self):
        led = untouched(led_machine, TALK, HEAPED)
        self.assertEqual(led, Machine(("heap", AB), ["p", "q"], [
            ("ask", "p", ("put", "a"), "p"), ("hear", "p", ("take", "b"), "q"), ("spoil", "p", ("any", ("turn", "a", "b")), "p")]))
        starts = [("q", row(once(B), once(A))), ("p", row(often(A))), ("q", row(once(B), once(A)))]
        self.assertEqual(untouched(led_starts, TALK, HEAPED, starts), [("q", bag([A, B], [])), ("p", bag([], [A])), ("q", bag([A, B], []))])
        some = [("q", ("b", "a")), ("p", ()), ("q", ("b", "a")), ("q", ("a", "b"))]
        self.assertEqual(untouched(led_positions, TALK, HEAPED, tuple(some)), [("q", ("a", "b")), ("p", ()), ("q", ("a", "b")), ("q", ("a", "b"))])
        self.assertEqual(untouched(led_positions, TALK, HEAPED, []), [])
        run = (1, ("p", ("b", "a")), (("ask", ("b", "a")), ("hear", ("a",))))
        self.assertEqual(untouched(led_run, TALK, HEAPED, run), (1, ("p", ("a", "b")), (("ask", ("a", "b")), ("hear", ("a",)))))
        self.assertEqual(led_run(TALK, COUNTED, run), (1, ("p", 2), (("ask", 2), ("hear", 1))))
        self.assertEqual(led_run(TALK, COUNTED, (0, ("q", ()), ())), (0, ("q", 0), ()))

    def test_runs_and_bars(self):
        words = {"run": 0, "bar": 0}
        for seed in range(500):
            draw = random.Random(seed)
            machine, starts, bad = some_machine(draw, 4, 3)
            answer = outcome(decide, machine, starts, bad)
            for change in maps_of(draw, machine.kind):
                led, told = led_machine(machine, change), led_positions(machine, change, bad)
                if answer is not TooMany and answer[0] == "run" and outcome(led_starts, machine, change, starts) is not TooMany:
                    run = led_run(machine, change, answer[1])
                    if outcome(judge_run, machine, starts, bad, answer[1]) is None:
                        self.assertIsNone(judge_run(led, led_starts(machine, change, starts), told, run))
                        words["run"] += 1
                bar = outcome(decide, led, [], told)
                back = bar if bar is TooMany else outcome(led_bar, machine, change, bar[1])
                if back is not TooMany:
                    fault = outcome(judge_bar, machine, [], bad, back)
                    self.assertIn(fault, (None, TooMany))
                    words["bar"] += fault is None
        self.assertGreater(min(words.values()), 60)


class Back(unittest.TestCase):

    def test_words(self):
        lane, heap = ("lane", MARK), ("heap", MARK)
        for sort, change, some, back in [
                (lane, HEAPED, [], []), (lane, HEAPED, [()], [()]), (lane, HEAPED, [("a", "b"), ("a", "b", "c")], [("a", "b"), ("b", "a")]),
                (heap, COUNTED, [2, 5], [("a", "a"), ("a", "b"), ("a", "c"), ("b", "b"), ("b", "c"), ("c", "c")]), (heap, COUNTED, [0, 3], [()]),
                (("lane", COUNT), COUNTED, [3], [(0, 0, 0)]), (("lane", lane), COUNTED, [2], [((), ())]),
                (PAIR, ("dropped", (), 1), [("a",), ("b",)], [(("a",), ()), (("b",), ())]),
                (("both", MARK, COUNT), ("dropped", (), 0), [4, 7], [("a", 4), ("b", 4), ("c", 4)]),
                (MARK, ("merged", (), (("a", "x"), ("c", "x"))), ["x"], ["a", "c"]), (MARK, ("merged", (), (("a", "x"), ("c", "x"))), ["b"], ["b"]),
                (lane, ("merged", (1,), (("a", "x"), ("c", "x"))), [("x", "b")], [("a", "b"), ("c", "b")]),
                (heap, ("merged", (1,), (("c", "a"),)), [("a", "a")], [("a", "a"), ("a", "c"), ("c", "c")]),
                (("either", lane, lane), ("counted", (2,)), [("left", ("a",)), ("right", 1)],
                 [("left", ("a",)), ("right", ("a",)), ("right", ("b",)), ("right", ("c",))]),
                (("lane", ("lane", AB)), ("heaped", (1,)), [(("a", "b"), ("a",))], [(("a", "b"), ("a",)), (("b", "a"), ("a",))])]:
            self.assertEqual(untouched(led_back, sort, change, some), back)
        self.assertEqual(led_back(lane, HEAPED, (("a",),)), [("a",)])

    def test_500_choices_and_501(self):
        heap, lane = ("heap", AB), ("lane", MARK)
        self.assertEqual(led_back(heap, COUNTED, [8, 7, 6, 5, 4, 2]), [("a", "a"), ("a", "b"), ("b", "b")])
        self.assertEqual(kept(TooMany, led_back, heap, COUNTED, [8, 7, 6, 5, 4, 2, 0]), {})
        self.assertEqual(kept(TooMany, led_back, heap, COUNTED, [9]), {})
        five, three = ("a",) * 5, ("a",) * 3
        some = [five] * 4 + [three] * 3 + [("a", "a")]
        self.assertEqual(led_back(lane, HEAPED, some), [("a", "a")])
        self.assertEqual(kept(TooMany, led_back, lane, HEAPED, some + [()]), {})
        self.assertEqual(kept(TooMany, led_back, lane, HEAPED, [("a",) * 6]), {})
        nine = ("both", MARK, MARK)
        self.assertEqual(len(led_back(("both", nine, AB), ("dropped", (), 0), ["a"] * 54 + ["b"])), 18)
        self.assertEqual(len(led_back(("lane", nine), ("dropped", (1,), 0), [("a", "b"), ("c", "c", "c", "c", "c")])), 9 + 243)
        self.assertEqual(kept(TooMany, led_back, ("lane", nine), ("dropped", (1,), 0), [("a",) * 6]), {})
        for side, sort in ((0, ("both", nine, COUNT)), (1, ("both", COUNT, nine))):
            self.assertEqual(len(led_back(sort, ("dropped", (), side), [3] * 55)), 9)
            self.assertEqual(kept(TooMany, led_back, sort, ("dropped", (), side), [3] * 56), {})
        # Those that are no more needed count, too; numbers and letters that stay have one choice.
        self.assertEqual(led_back(("both", COUNT, lane), ("counted", (2,)), [(5, 0)] * 500), [(5, ())])
        self.assertEqual(kept(TooMany, led_back, ("both", COUNT, lane), ("counted", (2,)), [(5, 0)] * 501), {})
        self.assertEqual(len(led_back(MARK, ("merged", (), (("a", "b"),)), ["b"] * 250)), 2)
        self.assertEqual(kept(TooMany, led_back, MARK, ("merged", (), (("a", "b"),)), ["b"] * 250 + ["c"]), {})

    def test_what_passes_the_bounds(self):
        for sort in (("lane", COUNT), ("heap", COUNT), ("lane", ("lane", AB)), ("heap", ONE)):
            self.assertEqual(led_back(sort, COUNTED, [8]), [(least_values_of(sort[1])[0],) * 8])
            self.assertEqual(kept(TooMany, led_back, sort, COUNTED, [9]), {})
            self.assertEqual(kept(TooMany, led_back, sort, COUNTED, [99]), {})
            # It does not stand in the least list.
            self.assertEqual(led_back(sort, COUNTED, [99, 9, 1]), led_back(sort, COUNTED, [1]))
        wide = ("both", COUNT, ("lane", COUNT))
        self.assertEqual(kept(TooMany, led_back, wide, ("counted", (2,)), [(1, 9), (2, 1)]), {})
        self.assertEqual(led_back(wide, ("counted", (2,)), [(2, 9), (2, 1)]), [(2, (0,))])
        self.assertEqual(kept(TooMany, led_back, ("lane", ("lane", COUNT)), ("counted", (1,)), [(1, 12)]), {})

    def test_bars(self):
        machine = Machine(LANE, ["p", "q", "r"], [])
        self.assertEqual(untouched(led_bar, machine, COUNTED, [("q", 1), ("p", 0), ("q", 2)]), (("p", ()), ("q", ("a",)), ("q", ("b",))))
        self.assertEqual(untouched(led_bar, machine, COUNTED, ()), ())
        # Each state has choices of its own.
        some = [("q", n) for n in (8, 7, 6, 5, 4, 2)]
        self.assertEqual(len(led_bar(machine, COUNTED, some + [("p", 8), ("r", 0)])), 4 + 256 + 1)
        self.assertEqual(kept(TooMany, led_bar, machine, COUNTED, some + [("q", 0)]), {})
        self.assertEqual(kept(TooMany, led_bar, machine, COUNTED, [("p", 0), ("r", 9)]), {})

    def test_all_small_values(self):
        looked = {True: 0, False: 0}
        for sort in [LANE, ("heap", AB), ("both", LANE, ("heap", AB)), ("both", AB, COUNT), ("either", LANE, MARK), ("lane", LANE),
                     ("heap", LANE), ("lane", ("both", AB, COUNT)), MARK, ("heap", MARK), ("lane", ("heap", AB))]:
            draw = random.Random(8)
            each = universe(sort, 2, 2 if len(universe(sort, 2, 3)) > 400 else 3)
            for change in maps_of(draw, sort) * 3:
                led = led_sort(sort, change)
                some = [some_value(draw, led, 2, 2) for _ in range(draw.randint(0, 3))]
                found = untouched(led_back, sort, change, some)
                self.assertTrue(is_least(sort, found))
                for v in each:
                    there = any(above(led, told_value(sort, change, v), u) for u in some)
                    self.assertIs(is_in(sort, found, v), there)
                    looked[there] += 1
        self.assertGreater(min(looked.values()), 1000)

    def test_random_ones_by_the_words(self):
        words = {True: 0, False: 0}
        for seed in range(160):
            draw = random.Random(seed)
            sort = some_sort(draw, 4, 3)
            for change in maps_of(draw, sort):
                some = [some_value(draw, told_sort(sort, change), 9, 3) for _ in range(draw.randint(0, 4))]
                wanted = outcome(told_back, sort, change, some)
                self.assertEqual(outcome(led_back, sort, change, some), wanted)
                words[wanted is TooMany] += 1
        self.assertGreater(min(words.values()), 30)
        self.assertEqual(told_choices(LANE, HEAPED, ("a", "b", "b")), 6)
        self.assertEqual(least(COUNT, [3, 5]), [3])


if __name__ == "__main__":
    unittest.main()
