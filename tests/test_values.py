"""Points 1.2, 1.3 and 1.4: values, their order, what they hold, the least ones, their size."""

import random
import unittest

from helpers import ODD, above, first_places, kept, key, least, path_of, some_sort, some_value, universe, untouched
from lossbars.errors import BadSort, BadValue
from lossbars.values import holds, is_value, least_values, ordered, places, size, value_of

COUNT = ("count",)
AB = ("mark", ("b", "a"))
PAIR = ("both", AB, COUNT)
EITHER = ("either", COUNT, ("lane", AB))
LANE = ("lane", PAIR)
HEAP = ("heap", AB)
DEEP = ("heap", ("lane", ("both", COUNT, ("heap", COUNT))))


class Values(unittest.TestCase):

    def wrong(self, sort, data, path):
        self.assertEqual(path_of(BadValue, value_of, sort, data), path)
        self.assertIs(is_value(sort, data), False)
        self.assertEqual(path_of(BadValue, size, sort, data), path)
        self.assertEqual(path_of(BadValue, holds, sort, data, data), path)
        self.assertEqual(path_of(BadValue, ordered, sort, [data]), (0,) + path)

    def not_in_form(self, sort, data, value):
        self.assertEqual(untouched(value_of, sort, data), value)
        self.assertIs(is_value(sort, data), False)
        self.assertIs(is_value(sort, value), True)
        self.assertEqual(path_of(BadValue, size, sort, data), ())
        self.assertEqual(path_of(BadValue, holds, sort, value, data), ())
        self.assertEqual(path_of(BadValue, ordered, sort, [value, data]), (1,))

    def test_right_ones(self):
        for sort, value in [(AB, "a"), (COUNT, 0), (COUNT, 99), (PAIR, ("b", 7)), (EITHER, ("left", 3)),
                            (EITHER, ("right", ())), (EITHER, ("right", ("a", "b"))), (LANE, ()),
                            (LANE, (("a", 1),) * 8), (HEAP, ("b", "b", "a")), (DEEP, (((2, (0, 1, 1)),),))]:
            self.assertIs(is_value(sort, value), True)
            self.assertEqual(untouched(value_of, sort, value), value)

    def test_things_of_other_kinds(self):
        for value in ODD:
            for sort in [AB, COUNT, EITHER]:
                self.wrong(sort, value, ())
            self.wrong(PAIR, value, (0,) if isinstance(value, tuple) and len(value) == 2 else ())
        for value in ODD:
            if not isinstance(value, (list, tuple)):
                self.wrong(LANE, value, ())
                self.wrong(HEAP, value, ())
            self.wrong(LANE, (("a", 1), ("b", value)), (1, 1))
            self.wrong(HEAP, ["a", "b", value], (2,))
            self.wrong(EITHER, ("left", value), (1,))
            self.wrong(PAIR, (value, None), (0,))

    def test_letters_and_numbers(self):
        for value in ["c", "ab", "A", 0, ("a",), ["a"]]:
            self.wrong(AB, value, ())
        for value in [-1, 100, 10 ** 39, True, False, "1", (1,), [1]]:
            self.wrong(COUNT, value, ())

    def test_pairs_and_sides_are_tuples(self):
        for value in [["a", 1], ("a",), ("a", 1, 1), ("a", "b", "c"), {0: "a", 1: 1}]:
            self.wrong(PAIR, value, ())
        for value in [["left", 1], ("left",), ("middle", 1), (True, 1), ("left", 1, 1), (["left"], 1), ("Left", 1)]:
            self.wrong(EITHER, value, ())
        self.wrong(EITHER, ("right", 3), (1,))
        self.wrong(EITHER, ("left", ()), (1,))

    def test_lanes_and_heaps_of_eight_and_nine(self):
        self.not_in_form(LANE, [("a", 0)] * 8, (("a", 0),) * 8)
        self.wrong(LANE, [("a", 0)] * 9, ())
        self.wrong(LANE, (("a", 0),) * 9, ())
        self.not_in_form(HEAP, ["a"] * 8, ("a",) * 8)
        self.wrong(HEAP, ("a",) * 9, ())
        self.wrong(HEAP, [None] * 9, ())
        self.wrong(DEEP, [[], [(0, [1] * 9)], None], (1, 0, 1))

    def test_lanes_and_heaps_may_be_lists(self):
        self.not_in_form(HEAP, ["a", "b", "a"], ("b", "a", "a"))
        self.not_in_form(HEAP, ("a", "b"), ("b", "a"))
        self.not_in_form(HEAP, ["b", "a"], ("b", "a"))
        self.not_in_form(LANE, [("a", 1), ("b", 0)], (("a", 1), ("b", 0)))
        self.not_in_form(EITHER, ("right", ["a", "b"]), ("right", ("a", "b")))
        self.not_in_form(DEEP, [[(2, [3, 1, 2]), (0, ())], (), [[0, []]][:0]],
                         ((), (), ((2, (1, 2, 3)), (0, ()))))

    def test_all_orders_of_a_heap_tell_one_value(self):
        sort = ("heap", ("both", AB, ("heap", COUNT)))
        self.assertEqual(value_of(sort, (("a", (2, 1)), ("b", [1, 2]), ("a", ()), ("b", [0, 5]))),
                         (("b", (0, 5)), ("b", (1, 2)), ("a", ()), ("a", (1, 2))))

    def test_the_path_leads_by_places_as_handed_in(self):
        # The heap is not ascending, so its wrong element would stand elsewhere in its one form.
        self.wrong(("heap", COUNT), [7, 3, True, 200], (2,))
        self.wrong(LANE, [("a", 1), ("c", 100), None], (1, 0))
        self.wrong(LANE, [("a", 1), ("b", 100), None], (1, 1))
        self.wrong(LANE, [["a", 1]], (0,))
        # A wrong part goes ahead of heaps that are only not ascending.
        self.wrong(("lane", HEAP), (("a", "b"), ("b", 0)), (1, 1))

    def test_sorts_go_ahead(self):
        for call in [value_of, is_value, size]:
            self.assertEqual(path_of(BadSort, call, ("lane", ("mark", ())), None), (1,))
        for call in [holds, places]:
            self.assertEqual(path_of(BadSort, call, ("lane", 5), None, None), (1,))
        self.assertEqual(path_of(BadSort, ordered, None, [None]), ())
        self.assertEqual(path_of(BadSort, least_values, ("both", COUNT, None)), (2,))

    def test_the_order_of_values(self):
        for sort, rising in [
                (("mark", ("c", "a", "b")), ["c", "a", "b"]), (COUNT, [0, 2, 10, 99]),
                (PAIR, [("b", 0), ("b", 9), ("a", 0), ("a", 10)]),
                (EITHER, [("left", 0), ("left", 99), ("right", ()), ("right", ("b",)), ("right", ("b", "a")),
                          ("right", ("a",))]),
                (HEAP, [(), ("b",), ("b", "b"), ("b", "b", "a"), ("b", "a"), ("a",)]),
                (("lane", ("lane", COUNT)), [(), ((),), ((), (5,)), ((0,),), ((0, 1),), ((1,), ()), ((10,),)])]:
            for seed in range(5):
                mixed = list(rising) + [rising[0]]
                random.Random(seed).shuffle(mixed)
                self.assertEqual(untouched(ordered, sort, mixed), [rising[0]] + rising)
                self.assertEqual(ordered(sort, tuple(mixed)), [rising[0]] + rising)
        self.assertEqual(untouched(ordered, COUNT, []), [])
        self.assertEqual(ordered(COUNT, [5, 1, 5, 0, 1]), [0, 1, 1, 5, 5])

    def test_the_first_wrong_one_of_some(self):
        self.assertEqual(path_of(BadValue, ordered, LANE, [(), [], (("c", 0),)]), (1,))
        self.assertEqual(path_of(BadValue, ordered, LANE, ((), (("a", 1), ("b", "b")), [])), (1, 1, 1))

    def test_examples(self):
        lane = ("lane", ("both", ("mark", ("a", "b")), COUNT))
        v, u = (("a", 2), ("b", 0), ("a", 1)), (("a", 1), ("a", 0))
        self.assertEqual(least_values(lane[1]), [("a", 0), ("b", 0)])
        self.assertEqual([holds(lane, v, u), places(lane, v, u), holds(lane, u, v), size(lane, v)],
                         [True, (0, 2), False, 9])
        self.assertEqual([value_of(HEAP, ["a", "b", "a"]), is_value(HEAP, ("a", "b")),
                          places(HEAP, ("b", "a", "a"), ("a", "a")), ordered(HEAP, [("a",), ("b", "a"), ()])],
                         [("b", "a", "a"), False, (1, 2), [(), ("b", "a"), ("a",)]])
        pairs = ("heap", ("both", COUNT, COUNT))
        self.assertEqual(places(pairs, ((1, 5), (2, 0)), ((0, 0), (0, 5))), (1, 0))
        self.wrong(lane, [["a", 1]], (0,))


class Holding(unittest.TestCase):

    def test_small_values_are_held_as_told(self):
        for sort, number, length in [(AB, 0, 0), (COUNT, 3, 0), (PAIR, 2, 0), (("either", COUNT, AB), 2, 0),
                                     (("lane", AB), 0, 3), (HEAP, 0, 3), (("heap", COUNT), 2, 3),
                                     (("lane", COUNT), 2, 3), (("heap", ("lane", ("mark", ("a",)))), 0, 3)]:
            values = universe(sort, number, length)
            for v in values:
                for u in values:
                    self.assertIs(holds(sort, v, u), above(sort, v, u), (sort, v, u))
                    if sort[0] in ("lane", "heap"):
                        self.assertEqual(places(sort, v, u), first_places(sort, v, u), (sort, v, u))

    def test_random_values_are_held_as_told(self):
        for seed in range(300):
            draw = random.Random(seed)
            sort = some_sort(draw, 4, 3)
            values = [some_value(draw, sort, 3, 4) for _ in range(4)]
            for v in values:
                for u in values:
                    self.assertIs(holds(sort, v, u), above(sort, v, u), (sort, v, u))
                    if above(sort, v, u):
                        self.assertTrue(size(sort, v) > size(sort, u) or v == u)
                    if sort[0] in ("lane", "heap"):
                        self.assertEqual(places(sort, v, u), first_places(sort, v, u), (sort, v, u))
            self.assertEqual(ordered(sort, values), sorted(values, key=lambda v: key(sort, v)))

    def test_elements_need_places_of_their_own(self):
        pairs = ("heap", ("both", COUNT, COUNT))
        self.assertIs(holds(("heap", COUNT), (0, 0, 9), (1, 1)), False)
        self.assertIs(holds(pairs, ((0, 3), (2, 1), (3, 0)), ((0, 1), (0, 2), (1, 0))), True)
        self.assertEqual(places(pairs, ((0, 3), (2, 1), (3, 0)), ((0, 1), (0, 2), (1, 0))), (1, 0, 2))
        self.assertIsNone(places(("lane", COUNT), (5, 1), (1, 5)))
        self.assertEqual(places(("lane", COUNT), (5, 1), ()), ())
        self.assertEqual(places(HEAP, (), ()), ())

    def test_eight_elements(self):
        eight = tuple((k, 7 - k) for k in range(8))
        pairs = ("heap", ("both", COUNT, COUNT))
        self.assertEqual(places(pairs, eight, eight), (0, 1, 2, 3, 4, 5, 6, 7))
        self.assertEqual(places(pairs, eight, tuple((k, 0) for k in range(8))), (0, 1, 2, 3, 4, 5, 6, 7))
        self.assertEqual(places(pairs, eight, tuple((0, k) for k in range(8))), (7, 6, 5, 4, 3, 2, 1, 0))
        self.assertIsNone(places(pairs, eight, ((4, 4),)))

    def test_large_values(self):
        deep = ("heap", ("heap", ("heap", ("heap", COUNT))))
        v = 9
        for _ in range(4):
            v = (v,) * 8
        u = 8
        for _ in range(4):
            u = (u,) * 8
        self.assertIs(holds(deep, v, u), True)
        self.assertIs(holds(deep, u, v), False)
        self.assertEqual(size(deep, v), 9 * 4096 + 4096 + 512 + 64 + 8)

    def test_places_asks_for_lanes_and_heaps(self):
        for sort in [AB, COUNT, PAIR, EITHER]:
            self.assertEqual(path_of(BadSort, places, sort, None, None), ())
        self.assertEqual(path_of(BadSort, places, ("both", ("lane", 1), COUNT), (), ()), (1, 1))

    def test_the_first_value_is_looked_at_first(self):
        for call in [holds, places]:
            self.assertEqual(path_of(BadValue, call, ("lane", COUNT), (1, 2, "x"), None), (2,))
            self.assertEqual(path_of(BadValue, call, ("lane", COUNT), (1, 2), (3, -1)), (1,))
            self.assertEqual(path_of(BadValue, call, ("heap", COUNT), (2, 1), (3, -1)), ())
            self.assertEqual(path_of(BadValue, call, ("heap", COUNT), (1, 2), [1]), ())


class LeastAndSize(unittest.TestCase):

    def test_least_values(self):
        for sort, found in [
                (("mark", ("c", "a", "b")), ["c", "a", "b"]), (COUNT, [0]), (("lane", COUNT), [()]), (HEAP, [()]),
                (("both", AB, ("mark", ("x", "y"))), [("b", "x"), ("b", "y"), ("a", "x"), ("a", "y")]),
                (EITHER, [("left", 0), ("right", ())]),
                (("either", ("lane", AB), AB), [("left", ()), ("right", "b"), ("right", "a")])]:
            self.assertEqual(untouched(least_values, sort), found)
            some = universe(sort, 2, 2)
            self.assertEqual(least(sort, some), found)

    def test_there_are_as_many_as_components(self):
        three = ("mark", ("a", "b", "c"))
        self.assertEqual(len(least_values(("both", three, ("both", three, three)))), 27)

    def test_size(self):
        for sort, value, much in [(AB, "a", 1), (COUNT, 0, 0), (COUNT, 99, 99), (PAIR, ("a", 5), 6),
                                  (EITHER, ("left", 4), 4), (EITHER, ("right", ("a", "b")), 4), (LANE, (), 0),
                                  (LANE, (("a", 0), ("b", 3)), 7), (HEAP, ("b", "a"), 4), (("heap", COUNT), (0, 0), 2),
                                  (DEEP, ((), ((2, (0, 1)),)), 8)]:
            self.assertEqual(untouched(size, sort, value), much)

    def test_nothing_is_modified(self):
        data = [[(1, [2, 1])], [], [(0, [9, 3]), (1, [])]]
        before = repr(data)
        self.assertEqual(value_of(DEEP, data), ((), ((0, (3, 9)), (1, ())), ((1, (1, 2)),)))
        self.assertEqual(repr(data), before)
        wrong = [[(1, [2, None])], {"a": [1]}]
        self.assertEqual(kept(BadValue, value_of, DEEP, wrong), {"path": (0, 0, 1, 1)})
        self.assertEqual(wrong, [[(1, [2, None])], {"a": [1]}])


if __name__ == "__main__":
    unittest.main()
