"""Points 4.1 and 4.2: acts and their results."""

import random
import unittest

from act_words import some_act, told_results
from helpers import ODD, above, kept, path_of, some_sort, some_value, untouched
from lossbars.acts import check_act, results
from lossbars.errors import BadAct, BadSort, BadValue, TooMany
from lossbars.values import is_value

COUNT = ("count",)
AB = ("mark", ("a", "b"))
ABC = ("mark", ("c", "a", "b"))
PAIR = ("both", COUNT, AB)
EITHER = ("either", COUNT, ("lane", AB))
LANE, HEAP = ("lane", AB), ("heap", COUNT)
STAY = ("stay",)
ADD, TAKE = ("add", 1), ("take", 1)
TURN = ("turn", "a", "b")


def then(one, two):
    return ("then", one, two)


def either_way(one, two):
    return ("or", one, two)


class Checks(unittest.TestCase):

    def right(self, sort, act):
        self.assertIsNone(untouched(check_act, sort, act))

    def wrong(self, sort, act, path):
        self.assertEqual(path_of(BadAct, check_act, sort, act), path, act)
        self.assertEqual(path_of(BadAct, results, sort, act, None), path, act)

    def test_examples(self):
        lane, heap = ("lane", AB), ("heap", COUNT)
        self.assertEqual([results(lane, ("receive", "b"), ("a", "b", "a", "b")), results(heap, ("take", 1), (0, 1, 1, 3)),
                          results(lane, ("any", TURN), ("a", "b", "a"))],
                         [[("a", "b")], [(0, 1, 1), (0, 1, 3)], [("a", "b", "b"), ("b", "b", "a")]])
        act = ("any", then(("take", 2), ("add", 1)))
        self.assertEqual([check_act(heap, act), results(heap, act, (1, 3, 3))], [None, [(1, 2, 3)]])
        self.assertEqual(path_of(BadAct, check_act, heap, ("or", ("put", 1), ("any", ("take", "a")))), (2, 1, 1))

    def test_right_ones(self):
        for sort in [AB, COUNT, PAIR, EITHER, LANE, HEAP]:
            self.right(sort, STAY)
            self.right(sort, then(STAY, either_way(STAY, then(STAY, STAY))))
        for sort, act in [
                (AB, ("need", "a")), (AB, ("set", "b")), (AB, TURN), (AB, ("turn", "b", "a")), (COUNT, ("need", 99)),
                (COUNT, ("set", 0)), (COUNT, ADD), (COUNT, ("add", 20)), (COUNT, ("take", 20)),
                (PAIR, ("first", ADD)), (PAIR, ("second", TURN)), (PAIR, ("need", (3, "a"))),
                (EITHER, ("left", TAKE)), (EITHER, ("right", ("send", "a"))), (LANE, ("send", "a")),
                (LANE, ("receive", "b")), (LANE, ("any", TURN)), (LANE, ("set", ("a",) * 8)), (HEAP, ("put", 99)),
                (HEAP, ("take", 0)), (HEAP, ("any", ADD)), (HEAP, ("need", (1, 1, 5))),
                (("lane", HEAP), ("any", ("any", TAKE))), (("heap", HEAP), ("take", (0, 7)))]:
            self.right(sort, act)
            self.right(sort, either_way(then(act, act), STAY))

    def test_things_of_other_kinds(self):
        for value in ODD:
            for sort in [AB, COUNT, PAIR, EITHER, LANE, HEAP]:
                path = (1,) if value == ("left",) and sort == EITHER else ()
                if value != ("left",):
                    self.wrong(sort, value, path)
            self.wrong(COUNT, ("add", value), (1,))
            self.wrong(COUNT, then(value, None), (1,))
            self.wrong(COUNT, either_way(ADD, value), (2,))
            self.wrong(LANE, ("send", value), (1,))
            self.wrong(LANE, ("any", value), (1,))
            self.wrong(PAIR, ("first", value), (1,))
            self.wrong(AB, ("turn", "a", value), (2,))
            self.wrong(AB, ("turn", value, value), (1,))

    def test_words_and_lengths(self):
        for sort, act in [
                (AB, ("add", 1)), (COUNT, TURN), (COUNT, ("send", 1)), (PAIR, ("left", ADD)), (EITHER, ("first", ADD)),
                (LANE, ("put", "a")), (LANE, ("take", "a")), (HEAP, ("send", 1)), (HEAP, ("receive", 1)),
                (HEAP, ("add", 1)), (AB, ("any", STAY)), (COUNT, ("Stay",)), (COUNT, "stay"), (COUNT, ["stay"]),
                (COUNT, ("stay", 1)), (COUNT, ("need",)), (COUNT, ("need", 1, 2)), (COUNT, ("set",)), (COUNT, ("then", ADD)),
                (COUNT, ("then", ADD, ADD, ADD)), (COUNT, ("or", ADD)), (COUNT, ("add",)), (COUNT, ("add", 1, 1)),
                (AB, ("turn", "a")), (AB, ("turn", "a", "b", "a")), (PAIR, ("first",)), (PAIR, ("first", ADD, ADD)),
                (LANE, ("send",)), (LANE, ("any", TURN, TURN)), (COUNT, (["stay"],)), (COUNT, ()), (COUNT, (STAY,))]:
            self.wrong(sort, act, ())

    def test_turns(self):
        self.wrong(AB, ("turn", "a", "a"), ())
        self.wrong(AB, ("turn", "c", "c"), (1,))
        self.wrong(AB, ("turn", "a", "c"), (2,))
        self.wrong(AB, ("turn", "c", None), (1,))
        self.wrong(AB, ("turn", ["a"], "b"), (1,))
        self.wrong(LANE, ("any", ("turn", "a", "a")), (1,))

    def test_numbers(self):
        for number in [0, -1, 21, 100, True, "1", None, (1,)]:
            self.wrong(COUNT, ("add", number), (1,))
            self.wrong(COUNT, ("take", number), (1,))

    def test_values(self):
        for sort, value in [(AB, "c"), (COUNT, 100), (COUNT, True), (PAIR, [1, "a"]), (PAIR, (1, "c")), (LANE, ["a"]),
                            (LANE, ("a",) * 9), (HEAP, (2, 1)), (HEAP, [1]), (EITHER, ("left", ()))]:
            for word in ["need", "set"]:
                self.wrong(sort, (word, value), (1,))
            self.wrong(("lane", sort), ("send", value), (1,))
            self.wrong(("lane", sort), ("receive", value), (1,))
            self.wrong(("heap", sort), ("put", value), (1,))
            self.wrong(("heap", sort), ("take", value), (1,))

    def test_the_first_part_that_is_wrong(self):
        self.wrong(COUNT, then(then(ADD, ("add", 0)), None), (1, 2, 1))
        self.wrong(COUNT, then(then(ADD, ADD), ("add", 0)), (2, 1))
        self.wrong(COUNT, then(("or", ADD), ("add", 0)), (1,))
        self.wrong(PAIR, either_way(("first", then(ADD, TURN)), ("second", ADD)), (1, 1, 2))
        self.wrong(PAIR, either_way(("first", ADD), ("second", ADD)), (2, 1))
        self.wrong(PAIR, ("second", then(TURN, ("need", 5))), (1, 2, 1))
        self.wrong(EITHER, ("right", ("send", 5)), (1, 1))
        self.wrong(EITHER, ("left", then(ADD, ("send", "a"))), (1, 2))
        self.wrong(("lane", HEAP), ("any", ("any", ("or", STAY, ("take", 0)))), (1, 1, 2, 1))
        self.wrong(EITHER, ("left", ("right", STAY)), (1,))

    def test_acts_of_any_number_of_tuples(self):
        wide = ADD
        for _ in range(12):
            wide = then(wide, wide)
        self.right(COUNT, wide)
        deep, path = ("add", 21), (1,)
        for k in range(3000):
            deep, path = (then(ADD, deep), (2,) + path) if k % 2 else (either_way(deep, None), (1,) + path)
        found = path_of(BadAct, check_act, COUNT, deep)
        self.assertEqual(found, path)

    def test_the_order_of_errors(self):
        self.assertEqual(path_of(BadSort, check_act, ("lane", 7), 5), (1,))
        self.assertEqual(path_of(BadSort, results, ("lane", 7), 5, 5), (1,))
        self.assertEqual(path_of(BadAct, results, LANE, ("send", 5), 5), (1,))
        self.assertEqual(path_of(BadValue, results, LANE, ("send", "a"), 5), ())
        self.assertEqual(path_of(BadValue, results, LANE, ("send", "a"), ("a", "c")), (1,))
        self.assertEqual(path_of(BadValue, results, HEAP, ("put", 1), (2, 1)), ())
        self.assertEqual(path_of(BadValue, results, LANE, ("send", "a"), ["a"] * 8), ())
        self.assertEqual(path_of(BadValue, results, COUNT, ADD, 100), ())


class Results(unittest.TestCase):

    def test_each_word(self):
        for sort, act, v, found in [
                (AB, STAY, "a", ["a"]), (COUNT, ("need", 3), 3, [3]), (COUNT, ("need", 3), 2, []),
                (LANE, ("need", ("b",)), ("a", "b"), [("a", "b")]), (LANE, ("need", ("b", "b")), ("a", "b"), []),
                (COUNT, ("set", 7), 0, [7]), (HEAP, ("set", ()), (1, 2), [()]),
                (COUNT, then(ADD, ("add", 20)), 5, [26]), (COUNT, then(("take", 9), ADD), 5, []),
                (COUNT, either_way(ADD, TAKE), 5, [4, 6]), (COUNT, either_way(TAKE, ADD), 0, [1]),
                (COUNT, either_way(ADD, ADD), 5, [6]), (AB, TURN, "a", ["b"]), (AB, TURN, "b", []),
                (COUNT, ("add", 20), 79, [99]), (COUNT, ("take", 5), 5, [0]), (COUNT, ("take", 6), 5, []),
                (PAIR, ("first", ADD), (5, "a"), [(6, "a")]), (PAIR, ("second", TURN), (5, "a"), [(5, "b")]),
                (PAIR, ("second", TURN), (5, "b"), []), (EITHER, ("left", TAKE), ("left", 5), [("left", 4)]),
                (EITHER, ("left", TAKE), ("right", ()), []), (EITHER, ("right", ("send", "a")), ("left", 5), []),
                (EITHER, ("right", ("send", "a")), ("right", ("b",)), [("right", ("b", "a"))]),
                (LANE, ("send", "a"), (), [("a",)]), (LANE, ("send", "a"), ("b",) * 7, [("b",) * 7 + ("a",)]),
                (LANE, ("receive", "a"), ("b", "b", "a", "a", "b"), [("a", "b")]), (LANE, ("receive", "a"), ("b",), []),
                (LANE, ("receive", "a"), (), []), (("lane", COUNT), ("receive", 3), (1, 5, 3), [(3,)]),
                (LANE, ("any", TURN), (), []), (LANE, ("any", TURN), ("b",), []),
                (("lane", COUNT), ("any", either_way(ADD, TAKE)), (0, 5), [(0, 4), (0, 6), (1, 5)]),
                (HEAP, ("put", 3), (1, 5), [(1, 3, 5)]), (HEAP, ("put", 5), (5,), [(5, 5)]), (HEAP, ("take", 3), (1, 2), []),
                (HEAP, ("take", 3), (1, 3, 5), [(1, 3), (1, 5)]), (HEAP, ("take", 0), (4, 4), [(4,)]),
                (HEAP, ("any", ADD), (1, 2), [(1, 3), (2, 2)]), (HEAP, ("any", ADD), (2, 2), [(2, 3)]),
                (HEAP, ("any", ("take", 3)), (1, 4), [(1, 1)]), (HEAP, ("any", ADD), (), []),
                (("heap", ABC), ("any", ("turn", "b", "c")), ("a", "b"), [("c", "a")]),
                (("lane", HEAP), ("any", ("put", 9)), ((), (1,)), [((), (1, 9)), ((9,), (1,))])]:
            self.assertEqual(untouched(results, sort, act, v), found, (sort, act, v))

    def test_put_behind_one_another_and_within_others(self):
        act = then(("any", ADD), then(("take", 3), ("put", 0)))
        self.assertEqual(untouched(results, HEAP, act, (2, 2, 5)), [(0, 2, 2), (0, 2, 3), (0, 2, 5)])
        sort = ("both", EITHER, ("lane", HEAP))
        act = either_way(then(("first", ("right", ("receive", "a"))), ("second", ("any", ("any", TAKE)))), ("second", STAY))
        self.assertEqual(untouched(results, sort, act, (("right", ("b", "a")), ((0, 2), ()))),
                         [(("right", ()), ((0, 1), ())), (("right", ("b", "a")), ((0, 2), ()))])
        self.assertEqual(results(sort, act, (("left", 1), ((0, 2), ()))), [(("left", 1), ((0, 2), ()))])

    def test_what_passes_the_bounds(self):
        for sort, act, v in [
                (COUNT, ADD, 99), (COUNT, ("add", 20), 80), (LANE, ("send", "a"), ("b",) * 8), (HEAP, ("put", 1), (0,) * 8),
                (PAIR, ("first", ADD), (99, "a")), (EITHER, ("left", ADD), ("left", 99)), (HEAP, ("any", ADD), (0, 99)),
                (("lane", COUNT), ("any", ADD), (99, 0)), (("lane", LANE), ("any", ("send", "a")), ((), ("a",) * 8)),
                # Also in a list that is only asked on the way.
                (COUNT, then(ADD, TAKE), 99), (LANE, then(("send", "a"), ("receive", "a")), ("a",) * 8),
                (COUNT, either_way(TAKE, ADD), 99), (COUNT, then(("add", 20), ("take", 20)), 80),
                (COUNT, then(either_way(STAY, ("add", 20)), ("set", 0)), 90),
                (COUNT, then(then(ADD, ("need", 99)), ("add", 20)), 98)]:
            self.assertEqual(kept(TooMany, results, sort, act, v), {}, (sort, act, v))

    def test_what_is_not_asked_does_not_pass_them(self):
        self.assertEqual(results(COUNT, then(("take", 20), ADD), 19), [])
        self.assertEqual(results(COUNT, then(TAKE, ADD), 99), [99])
        self.assertEqual(results(EITHER, ("left", ADD), ("right", ())), [])
        self.assertEqual(results(("heap", ("lane", AB)), ("any", ("send", "a")), ()), [])
        self.assertEqual(results(LANE, then(("need", ("a",)), ("send", "a")), ("b",) * 8), [])

    def test_results_are_a_new_list_each_time(self):
        act = ("set", (1, 2))
        found = results(HEAP, act, ())
        found.append(5)
        self.assertEqual(results(HEAP, act, ()), [(1, 2)])

    def test_random_acts(self):
        asked = 0
        for seed in range(400):
            draw = random.Random(seed)
            sort = some_sort(draw, 4, 2)
            act = some_act(draw, sort, 3)
            check_act(sort, act)
            v, w = some_value(draw, sort, 5, 3), some_value(draw, sort, 5, 3)
            found = untouched(results, sort, act, v)
            self.assertEqual(found, told_results(sort, act, v), (sort, act, v))
            self.assertTrue(all(is_value(sort, one) for one in found))
            if above(sort, w, v):
                more = results(sort, act, w)
                asked += len(found)
                self.assertTrue(all(any(above(sort, two, one) for two in more) for one in found))
        self.assertGreater(asked, 20)


if __name__ == "__main__":
    unittest.main()
