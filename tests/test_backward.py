"""Point 4.3: what is back of a value by an act."""

import random
import unittest

from act_words import some_act, told_back, told_results
from helpers import ODD, above, kept, path_of, some_sort, some_value, universe, untouched
from lossbars.acts import results
from lossbars.backward import back, back_list
from lossbars.errors import BadAct, BadSort, BadValue, TooMany
from lossbars.leasts import both_held, is_in, is_least, least, ways
from lossbars.values import ordered, value_of

COUNT = ("count",)
AB, ABC = ("mark", ("a", "b")), ("mark", ("c", "a", "b"))
PAIR = ("both", COUNT, AB)
PAIRS = ("both", COUNT, COUNT)
EITHER = ("either", COUNT, ("lane", AB))
LANE, WORDS, HEAP = ("lane", AB), ("lane", ABC), ("heap", COUNT)
STAY = ("stay",)
ADD, TAKE = ("add", 1), ("take", 1)
TURN = ("turn", "a", "b")
# Two values of 500 ways; side by side in heaps they have 501.
STORES = ("both", ("both", ("lane", AB), ("heap", AB)), ("heap", AB))
V500 = ((("a", "a"), ("a",)), ("a",))
U500 = ((("b", "b", "b"), ("b",) * 4), ("b",) * 3)
# 56, 4 and 5 values hold one of these and five times b.
THREE, FOUR_MORE, FIVE_MORE = ("a",) * 3, ("b", "b", "c"), ("b", "c")
FIVE = ("b",) * 5


def then(one, two):
    return ("then", one, two)


def either_way(one, two):
    return ("or", one, two)


def outcome(call, *arguments):
    """What a call returns, or TooMany if it raises it."""
    try:
        return call(*arguments)
    except TooMany:
        return TooMany


class Back(unittest.TestCase):

    def back(self, sort, act, b, found):
        self.assertEqual(untouched(back, sort, act, b), found, (sort, act, b))
        self.assertTrue(is_least(sort, found))
        self.assertEqual(untouched(back_list, sort, act, [b]), found)

    def many(self, sort, act, b):
        self.assertEqual(kept(TooMany, back, sort, act, b), {}, (sort, act, b))
        self.assertEqual(kept(TooMany, back_list, sort, act, [b]), {}, (sort, act, b))

    def test_examples(self):
        self.assertEqual([back(LANE, ("send", "a"), ("b", "a")), back(LANE, ("receive", "b"), ("a",)),
                          back(HEAP, ("put", 1), (0, 1, 2)), back(HEAP, ("take", 2), (0,))],
                         [[("b",)], [("b", "a")], [(0, 2)], [(0, 2)]])
        self.assertEqual([back(LANE, ("any", TURN), ("b",)), back_list(COUNT, ("add", 2), [1, 5])], [[("a",)], [0]])

    def test_each_word(self):
        for sort, act, b, found in [
                (AB, STAY, "a", ["a"]), (LANE, STAY, ("a", "b"), [("a", "b")]),
                (COUNT, ("need", 3), 5, [5]), (COUNT, ("need", 3), 2, [3]), (AB, ("need", "a"), "b", []),
                (LANE, ("need", ("a",)), ("b",), [("a", "b"), ("b", "a")]), (EITHER, ("need", ("left", 2)), ("right", ()), []),
                (COUNT, ("set", 7), 7, [0]), (COUNT, ("set", 7), 8, []), (AB, ("set", "b"), "b", ["a", "b"]),
                (EITHER, ("set", ("left", 1)), ("left", 0), [("left", 0), ("right", ())]), (LANE, ("set", ()), ("a",), []),
                (AB, TURN, "b", ["a"]), (AB, TURN, "a", []), (ABC, TURN, "c", []),
                (COUNT, ("add", 3), 5, [2]), (COUNT, ("add", 3), 3, [0]), (COUNT, ("add", 5), 3, [0]),
                (COUNT, ("take", 3), 5, [8]), (COUNT, ("take", 3), 0, [3]),
                (PAIR, ("first", ADD), (5, "a"), [(4, "a")]), (PAIR, ("second", TURN), (5, "b"), [(5, "a")]),
                (PAIR, ("second", TURN), (5, "a"), []), (EITHER, ("left", TAKE), ("left", 5), [("left", 6)]),
                (EITHER, ("left", TAKE), ("right", ()), []), (EITHER, ("right", ("send", "a")), ("left", 5), []),
                (EITHER, ("right", ("send", "a")), ("right", ("a", "a")), [("right", ("a",))]),
                (LANE, ("send", "a"), (), [()]), (LANE, ("send", "a"), ("a",), [()]), (LANE, ("send", "a"), ("a", "b"), [("a", "b")]),
                (("lane", COUNT), ("send", 3), (5, 2), [(5,)]), (("lane", COUNT), ("send", 3), (2, 5), [(2, 5)]),
                (LANE, ("receive", "a"), (), [("a",)]), (LANE, ("receive", "a"), ("b", "a"), [("a", "b", "a")]),
                (HEAP, ("put", 3), (), [()]), (HEAP, ("put", 3), (4, 5), [(4, 5)]), (HEAP, ("put", 3), (1, 3, 5), [(1, 5)]),
                (HEAP, ("put", 3), (2, 2), [(2,)]), (HEAP, ("take", 3), (), [(3,)]), (HEAP, ("take", 3), (1, 5), [(1, 3, 5)])]:
            self.back(sort, act, b, found)

    def test_put_takes_each_element_that_it_holds(self):
        pairs = ("heap", PAIRS)
        self.back(pairs, ("put", (3, 3)), ((0, 3), (3, 0), (4, 0)), [((0, 3), (4, 0)), ((3, 0), (4, 0))])
        self.back(("heap", ABC), ("put", "a"), ("c", "a", "a", "b"), [("c", "a", "b")])

    def test_put_together(self):
        for sort, act, b, found in [
                (COUNT, then(("take", 2), ADD), 5, [6]), (COUNT, then(ADD, ("take", 2)), 5, [6]), (COUNT, then(ADD, ("take", 2)), 0, [1]),
                (COUNT, either_way(ADD, TAKE), 5, [4]), (COUNT, either_way(("need", 9), TAKE), 5, [6]),
                (AB, either_way(TURN, ("turn", "b", "a")), "b", ["a"]), (AB, either_way(TURN, STAY), "b", ["a", "b"]),
                (LANE, then(("receive", "a"), ("send", "b")), ("a", "b"), [("a", "a")]),
                (LANE, then(("send", "b"), ("receive", "a")), ("a", "b"), [("a", "a")]),
                (LANE, then(("send", "a"), ("receive", "a")), (), [()]),
                (HEAP, then(("take", 3), ("put", 5)), (4,), [(3,)]), (COUNT, then(("set", 3), ("need", 4)), 1, []),
                (AB, then(TURN, TURN), "b", []), (COUNT, either_way(("set", 3), ("need", 20)), 10, [20])]:
            self.back(sort, act, b, found)

    def test_any(self):
        for sort, act, b, found in [
                (LANE, TURN, (), [("a",)]), (LANE, TURN, ("a",), [("a", "a")]), (LANE, TURN, ("b", "b"), [("a", "b"), ("b", "a")]),
                (LANE, TURN, ("a", "b"), [("a", "a")]), (LANE, ("set", "b"), ("a",), [("a", "a"), ("a", "b"), ("b", "a")]),
                (("lane", COUNT), ADD, (), [(0,)]), (("lane", COUNT), ADD, (3, 0), [(2, 0)]), (("lane", COUNT), TAKE, (2,), [(1, 2), (2, 1), (3,)]),
                (HEAP, ADD, (), [(0,)]), (HEAP, ADD, (1, 2), [(0, 2), (1, 1)]), (HEAP, TAKE, (), [(1,)]), (HEAP, TAKE, (2,), [(1, 2), (3,)]),
                (("heap", ABC), TURN, ("a", "b"), [("a", "a")]), (("heap", AB), ("set", "b"), ("a",), [("a", "a"), ("a", "b")]),
                (("heap", AB), ("set", "b"), ("b",), [("a",), ("b",)]), (("heap", AB), then(TURN, TURN), ("a", "b"), []),
                (("lane", HEAP), ("put", 9), ((1,),), [((),)]), (("lane", HEAP), ("take", 9), (), [((9,),)])]:
            self.back(sort, ("any", act), b, found)

    def test_numbers_to_99(self):
        self.back(COUNT, ("take", 20), 79, [99])
        self.many(COUNT, ("take", 20), 80)
        self.back(HEAP, ("any", TAKE), (98,) * 7, [(1,) + (98,) * 7, (98,) * 6 + (99,)])
        self.many(HEAP, ("any", TAKE), (99,))
        self.many(HEAP, ("any", TAKE), (98,) * 8)
        self.many(PAIR, ("first", TAKE), (99, "a"))
        self.back(PAIR, ("second", TURN), (99, "b"), [(99, "a")])

    def test_lanes_and_heaps_of_eight_elements_and_nine(self):
        self.back(LANE, ("receive", "a"), ("b",) * 7, [("a",) + ("b",) * 7])
        self.many(LANE, ("receive", "a"), ("b",) * 8)
        self.back(HEAP, ("take", 1), (3,) * 7, [(1,) + (3,) * 7])
        self.many(HEAP, ("take", 1), (3,) * 8)
        self.back(LANE, ("send", "a"), ("b",) * 8, [("b",) * 8])
        self.back(("lane", ("mark", ("a",))), ("need", ("a",)), ("a",) * 8, [("a",) * 8])
        self.many(LANE, ("need", ("a",)), ("b",) * 8)

    def test_what_goes_out_of_a_list_may_pass_the_bounds(self):
        # With one put in there are nine, but these hold one of those with one turned.
        self.back(LANE, ("any", TURN), ("a",) * 7 + ("b",), [("a",) * 8])
        self.many(LANE, ("any", TURN), ("a",) * 8)
        self.assertEqual(len(back(WORDS, ("any", TURN), ("c",) * 7)), 8)
        self.many(WORDS, ("any", TURN), ("c",) * 8)
        self.back(("heap", AB), ("any", TURN), ("b",) * 8, [("a",) + ("b",) * 7])
        self.many(("heap", AB), ("any", TURN), ("a",) * 8)
        self.back(HEAP, either_way(("take", 1), ("put", 1)), (1,) * 7, [(1,) * 6])

    def test_500_ways_and_501(self):
        self.assertEqual(ways(STORES, V500, U500), 500)
        self.back(STORES, ("need", V500), U500, both_held(STORES, V500, U500))
        self.many(("heap", STORES), ("need", (V500,)), (U500,))
        side_by_side = value_of(("heap", STORES), [V500, U500])
        held = [(v,) for v in both_held(STORES, V500, U500)]
        self.back(("heap", STORES), ("any", ("need", V500)), (U500,), ordered(("heap", STORES), held + [side_by_side]))
        # However short the list is, and also where nothing holds both.
        self.back(LANE, ("need", ("a",) * 4), ("a",) * 4, [("a",) * 4])
        self.many(LANE, ("need", ("a",) * 5), ("a",) * 5)
        self.many(LANE, ("need", ("a",) * 5), ("b",) * 5)
        self.many(("both", AB, LANE), ("need", ("a", ("a",) * 5)), ("b", ("b",) * 5))

    def test_60_values_and_61(self):
        self.assertEqual(len(both_held(WORDS, THREE, FIVE)), 56)
        sixty = either_way(("need", THREE), ("need", FOUR_MORE))
        more = either_way(("need", THREE), ("need", FIVE_MORE))
        self.assertEqual(len(back(WORDS, sixty, FIVE)), 60)
        self.many(WORDS, more, FIVE)
        self.assertEqual(kept(TooMany, back, WORDS, ("need", ("a",) * 4), ("b",) * 4), {})
        self.assertEqual(len(both_held(WORDS, ("a",) * 4, ("b",) * 4)), 70)
        # Also of lists that are only asked.
        nothing = ("need", ())
        self.back(WORDS, then(("set", FIVE), then(sixty, nothing)), FIVE, [])
        self.many(WORDS, then(("set", FIVE), then(more, nothing)), FIVE)
        self.many(WORDS, either_way(STAY, more), FIVE)
        self.back(("lane", WORDS), ("any", then(("set", ()), sixty)), (FIVE,), [])
        self.many(("lane", WORDS), ("any", then(("set", ()), more)), (FIVE,))
        self.assertEqual(len(back(("both", WORDS, AB), ("first", sixty), (FIVE, "a"))), 60)
        self.many(("both", WORDS, AB), ("first", more), (FIVE, "a"))
        self.many(("either", WORDS, AB), ("left", more), ("left", FIVE))
        self.back(("either", WORDS, AB), ("left", more), ("right", "a"), [])

    def test_lists_of_60_values_and_61(self):
        sixty = [(k, 59 - k) for k in range(60)]
        self.assertEqual(untouched(back_list, PAIRS, STAY, sixty), sixty)
        more = [(k, 60 - k) for k in range(61)]
        self.assertEqual(kept(TooMany, back_list, PAIRS, STAY, more), {})
        self.assertEqual(back_list(PAIRS, STAY, more + [(1, 1)]), [(0, 60), (1, 1), (60, 0)])
        self.assertEqual(back_list(PAIRS, ("set", (99, 99)), more), [(0, 0)])

    def test_what_is_asked_within(self):
        # 80 and 20 are above 99, though what was asked behind it is lower again.
        self.many(COUNT, then(("add", 20), ("take", 20)), 80)
        self.back(COUNT, then(("take", 20), ("add", 20)), 80, [80])
        self.many(COUNT, either_way(STAY, ("take", 20)), 80)
        self.many(LANE, then(("set", ()), ("receive", "a")), ("a",) * 8)
        # Of the least values within also where lanes and heaps are empty.
        deep = ("heap", ("either", COUNT, WORDS))
        self.back(deep, ("any", ("left", STAY)), (), [(("left", 0),)])
        self.back(deep, ("any", ("right", ("need", ()))), (), [(("right", ()),)])
        self.assertEqual(back(("lane", COUNT), ("any", ("take", 20)), ()), [(20,)])
        twice = then(("take", 20), ("take", 20))
        hungry = then(twice, twice)
        self.back(COUNT, hungry, 19, [99])
        self.back(("lane", COUNT), ("any", hungry), (), [(80,)])
        self.many(("lane", COUNT), ("any", then(hungry, ("take", 20))), ())

    def test_back_list(self):
        for sort, act, some, found in [
                (COUNT, ADD, [], []), (COUNT, ADD, [5, 3, 3], [2]), (AB, TURN, ["b", "a"], ["a"]), (AB, STAY, ("b", "a"), ["a", "b"]),
                (LANE, ("receive", "a"), [("b",), ("a",)], [("a", "a"), ("a", "b")]), (AB, TURN, ["a"], [])]:
            self.assertEqual(untouched(back_list, sort, act, some), found)
        self.assertEqual(kept(TooMany, back_list, COUNT, ("take", 1), [5, 99]), {})
        self.assertEqual(kept(TooMany, back_list, LANE, ("need", ("a",) * 5), [("a",), ("a",) * 5]), {})

    def test_new_lists_each_time(self):
        for call, told in [(back, 3), (back_list, [3])]:
            found = call(COUNT, STAY, told)
            found.append(5)
            self.assertEqual(call(COUNT, STAY, told), [3])


class Wrong(unittest.TestCase):

    def test_errors_in_order(self):
        for call, more in [(back, lambda v: v), (back_list, lambda v: [v])]:
            self.assertEqual(path_of(BadSort, call, ("lane", 7), 5, more(5)), (1,))
            self.assertEqual(path_of(BadAct, call, LANE, ("any", ("turn", "a", "c")), more(5)), (1, 2))
            self.assertEqual(path_of(BadAct, call, LANE, then(STAY, ("send", 5)), more(("a",) * 9)), (2, 1))
        self.assertEqual(path_of(BadValue, back, LANE, ("send", "a"), ("a", "c")), (1,))
        self.assertEqual(path_of(BadValue, back_list, LANE, ("send", "a"), [(), ("a", "c"), 5]), (1, 1))
        self.assertEqual(path_of(BadValue, back, HEAP, STAY, (2, 1)), ())
        self.assertEqual(path_of(BadValue, back_list, HEAP, STAY, [(2, 1)]), (0,))
        self.assertEqual(path_of(BadValue, back, HEAP, STAY, [1]), ())
        self.assertEqual(path_of(BadValue, back, PAIR, STAY, (True, "a")), (0,))

    def test_wrong_values_go_ahead_of_too_many(self):
        self.assertEqual(path_of(BadValue, back_list, COUNT, ("take", 20), [99, 99, 100]), (2,))
        self.assertEqual(path_of(BadValue, back, COUNT, ("take", 20), 100), ())

    def test_odd_things(self):
        for value in ODD:
            if value != ("count",):
                self.assertEqual(path_of(BadValue, back, AB, STAY, value), ())
                self.assertEqual(path_of(BadValue, back_list, AB, STAY, ["a", value]), (1,))
            self.assertIsInstance(path_of(BadAct, back, COUNT, value, 5), tuple)


class ByTheWords(unittest.TestCase):

    def test_random_acts(self):
        more = 0
        for seed in range(400):
            draw = random.Random(seed)
            sort = some_sort(draw, draw.choice([2, 3, 4]), 3)
            act, b = some_act(draw, sort, 3), some_value(draw, sort, draw.choice([3, 99]), 3)
            found = outcome(back, sort, act, b)
            self.assertEqual(found, outcome(told_back, sort, act, b), (sort, act, b))
            more += found is TooMany
            some = [b, some_value(draw, sort, 3, 2)]
            each = [outcome(told_back, sort, act, v) for v in some]
            if TooMany not in each:
                self.assertEqual(outcome(back_list, sort, act, some), least(sort, each[0] + each[1]))

    def test_what_is_back_of_a_value_has_a_result_that_holds_it(self):
        asked = {}
        for sort, number, length in [(COUNT, 9, 0), (ABC, 0, 0), (PAIR, 5, 0), (EITHER, 2, 3), (WORDS, 0, 3), (HEAP, 2, 3),
                                     (("lane", PAIR), 1, 2), (("heap", ABC), 0, 4), (("heap", LANE), 0, 2),
                                     (("lane", HEAP), 1, 2), (("both", LANE, ("heap", AB)), 0, 2)]:
            values = universe(sort, number, length)
            for seed in range(60):
                draw = random.Random(seed)
                act, b = some_act(draw, sort, 2), some_value(draw, sort, 3, 2)
                found = outcome(back, sort, act, b)
                for v in draw.sample(values, min(len(values), 40)) if found is not TooMany else []:
                    one = any(above(sort, w, b) for w in told_results(sort, act, v))
                    self.assertIs(is_in(sort, found, v), one, (sort, act, b, v))
                    asked[one] = asked.get(one, 0) + 1
        self.assertGreater(min(asked[True], asked[False]), 1000)

    def test_each_of_the_back_leads_to_the_value(self):
        for seed in range(200):
            draw = random.Random(seed)
            sort = some_sort(draw, 3, 2)
            act, b = some_act(draw, sort, 2), some_value(draw, sort, 3, 2)
            for v in back(sort, act, b):
                self.assertTrue(any(above(sort, w, b) for w in results(sort, act, v)), (sort, act, b, v))


if __name__ == "__main__":
    unittest.main()
