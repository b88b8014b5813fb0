"""Points 2.1, 2.2 and 2.3: least lists, what holds two values, ways."""

import random
import unittest

from helpers import ODD, above, kept, key, least as least_told, some_sort, some_value, universe, untouched
from lossbars.errors import TooMany
from lossbars.leasts import both_held, common, contains, is_in, is_least, least, together, ways
from lossbars.values import is_value

COUNT = ("count",)
AB = ("mark", ("a", "b"))
LANE = ("lane", AB)
HEAP = ("heap", AB)
PAIR = ("both", COUNT, COUNT)
EITHER = ("either", COUNT, LANE)
# A pair of pairs of stores whose ways can be made to be 25, 5 and 4.
STORES = ("both", ("both", LANE, HEAP), HEAP)
V500 = ((("a", "a"), ("a",)), ("a",))
U500 = ((("b", "b", "b"), ("b",) * 4), ("b",) * 3)


def told_ways(sort, v, u):
    """The number of ways, by the words of [2.3]."""
    if sort[0] in ("mark", "count"):
        return 1
    if sort[0] == "both":
        return told_ways(sort[1], v[0], u[0]) * told_ways(sort[2], v[1], u[1])
    if sort[0] == "either":
        return told_ways(sort[1 if v[0] == "left" else 2], v[1], u[1]) if v[0] == u[0] else 1
    if sort[0] == "lane" and (not v or not u):
        return 1
    if sort[0] == "lane":
        first = told_ways(sort[1], v[0], u[0])
        return told_ways(sort, v[1:], u) + told_ways(sort, v, u[1:]) + told_ways(sort, v[1:], u[1:]) * first
    if not v:
        return 1
    found = told_ways(sort, v[1:], u)
    for k, part in enumerate(u):
        found += told_ways(sort[1], v[0], part) * told_ways(sort, v[1:], u[:k] + u[k + 1:])
    return found


def told_held(sort, v, u):
    """The least list of what holds v and u, by the words of [2.2], however long its values."""
    if sort[0] == "mark":
        return [v] if v == u else []
    if sort[0] == "count":
        return [max(v, u)]
    if sort[0] == "both":
        seconds = told_held(sort[2], v[1], u[1])
        return [(one, two) for one in told_held(sort[1], v[0], u[0]) for two in seconds]
    if sort[0] == "either":
        return [(v[0], w) for w in told_held(sort[1 if v[0] == "left" else 2], v[1], u[1])] if v[0] == u[0] else []
    if sort[0] == "lane" and (not v or not u):
        return [v or u]
    if sort[0] == "lane":
        found = [v[:1] + rest for rest in told_held(sort, v[1:], u)] + [u[:1] + rest for rest in told_held(sort, v, u[1:])]
        rests = told_held(sort, v[1:], u[1:])
        return least_told(sort, found + [(w,) + rest for w in told_held(sort[1], v[0], u[0]) for rest in rests])
    return least_told(sort, [tuple(sorted(row, key=lambda w: key(sort[1], w))) for row in pairings(sort[1], v, u)])


def pairings(inner, v, u):
    if not v:
        return [u]
    found = [v[:1] + row for row in pairings(inner, v[1:], u)]
    for k, part in enumerate(u):
        rests = pairings(inner, v[1:], u[:k] + u[k + 1:])
        found += [(w,) + rest for w in told_held(inner, v[0], part) for rest in rests]
    return found


class LeastLists(unittest.TestCase):

    def test_examples(self):
        self.assertEqual([least(COUNT, [5, 2, 2]), is_in(LANE, [("a",)], ("b", "a")),
                          contains(LANE, [("a",)], [("b",)]), is_least(COUNT, [1, 2])], [[2], True, False, False])
        self.assertEqual([both_held(LANE, ("a",), ("b",)), both_held(HEAP, ("a",), ("a", "b")),
                          ways(LANE, ("a", "b"), ("b",)), ways(HEAP, ("a", "a"), ("a",))],
                         [[("a", "b"), ("b", "a")], [("a", "b")], 5, 3])
        self.assertEqual([together(LANE, [("a", "b")], [("b",)]), common(LANE, [("a", "a"), ("b",)], [("a",)])],
                         [[("b",)], [("a", "a"), ("a", "b"), ("b", "a")]])

    def test_least(self):
        for sort, some, found in [
                (COUNT, [], []), (COUNT, [7], [7]), (AB, ["b", "a", "b"], ["a", "b"]),
                (("mark", ("b", "a")), ["a", "b"], ["b", "a"]),
                (PAIR, [(3, 1), (1, 3), (2, 2), (3, 3), (1, 3)], [(1, 3), (2, 2), (3, 1)]),
                (EITHER, [("right", ("b", "a")), ("left", 2), ("right", ("a",)), ("left", 1)],
                 [("left", 1), ("right", ("a",))]),
                (LANE, [("a", "b"), ("b", "a"), ("a", "b", "a")], [("a", "b"), ("b", "a")]),
                (HEAP, [("a", "b"), ("b",), ("a", "a")], [("a", "a"), ("b",)]), (LANE, [("a",), ()], [()])]:
            self.assertEqual(untouched(least, sort, some), found)
            self.assertEqual(least(sort, tuple(some)), found)
            self.assertEqual(untouched(together, sort, some, found), found)
            self.assertIs(is_least(sort, found), True)
            self.assertIs(is_least(sort, tuple(found)), True)
            self.assertIs(is_least(sort, some), some == found)

    def test_is_least_of_any_value(self):
        for value in ODD:
            self.assertIs(is_least(AB, value), value == [])
        for value in [None, 5, "", {}, {0: 1}, [5, 5], [None], [[("a",)]], [True], [1, 2], ["a"], [100], [-1], (2, 1)]:
            self.assertIs(is_least(COUNT, value), False)
        for sort, value in [(LANE, [["a"]]), (LANE, (("b",), ("a",))), (HEAP, [("b", "a")]), (LANE, [("a",), ("a", "b")]),
                            (LANE, [("a",) * 9]), (LANE, "a"), (LANE, [(), ("a",)]), (AB, ["b", "a"]), (AB, "ab"),
                            (PAIR, [(1, 1), (1, True)])]:
            self.assertIs(is_least(sort, value), False)
        self.assertIs(is_least(AB, ("a", "b")), True)
        self.assertIs(is_least(COUNT, ()), True)

    def test_long_lists(self):
        words = [tuple("ab"[k >> n & 1] for n in range(8)) for k in range(256)]
        self.assertIs(is_least(LANE, sorted(words)), True)
        self.assertEqual(least(LANE, words + [("a",) * 3]), [("a",) * 3] + sorted(w for w in words if w.count("a") < 3))

    def test_up_sets(self):
        self.assertIs(is_in(COUNT, [], 5), False)
        self.assertIs(is_in(COUNT, [9, 5], 5), True)
        self.assertIs(contains(COUNT, [], []), True)
        self.assertIs(contains(COUNT, [], [5]), False)
        self.assertIs(contains(COUNT, [5], []), True)
        self.assertIs(contains(LANE, [("a",), ("b", "b")], [("b", "a"), ("b", "b", "b")]), True)
        self.assertIs(contains(LANE, [("a",), ("b", "b")], [("b", "a"), ("b",)]), False)

    def test_random_lists(self):
        for seed in range(150):
            draw = random.Random(seed)
            sort = some_sort(draw, 4, 3)
            some = [some_value(draw, sort, 3, 3) for _ in range(draw.randint(0, 6))]
            others = [some_value(draw, sort, 3, 3) for _ in range(draw.randint(0, 4))]
            self.assertEqual(untouched(least, sort, some), least_told(sort, some))
            self.assertEqual(untouched(together, sort, some, others), least_told(sort, some + others))
            self.assertIs(untouched(is_least, sort, some), some == least_told(sort, some))
            inside = [any(above(sort, v, u) for u in some) for v in others]
            self.assertEqual([is_in(sort, some, v) for v in others], inside)
            self.assertIs(untouched(contains, sort, some, others), all(inside))


class BothHeld(unittest.TestCase):

    def test_words(self):
        for sort, v, u, found in [
                (AB, "a", "a", ["a"]), (AB, "a", "b", []), (COUNT, 3, 7, [7]), (PAIR, (3, 7), (5, 1), [(5, 7)]),
                (("both", AB, COUNT), ("a", 1), ("b", 2), []), (EITHER, ("left", 3), ("left", 5), [("left", 5)]),
                (EITHER, ("left", 3), ("right", ()), []),
                (EITHER, ("right", ("a",)), ("right", ("b",)), [("right", ("a", "b")), ("right", ("b", "a"))]),
                (("both", LANE, LANE), (("a",), ("a",)), (("b",), ()), [(("a", "b"), ("a",)), (("b", "a"), ("a",))]),
                (LANE, (), (), [()]), (LANE, (), ("a",), [("a",)]), (LANE, ("a", "b"), (), [("a", "b")]),
                (LANE, ("a", "b"), ("b",), [("a", "b")]), (HEAP, (), ("a",), [("a",)]), (HEAP, (), (), [()]),
                (HEAP, ("a", "b"), ("b", "b"), [("a", "b", "b")]),
                (("lane", COUNT), (1,), (2,), [(2,)]), (("lane", COUNT), (1, 5), (3, 2), [(1, 5, 2), (3, 5)]),
                (("heap", COUNT), (1, 5), (3,), [(1, 5)]),
                (("heap", PAIR), ((1, 3),), ((2, 0),), [((1, 3), (2, 0)), ((2, 3),)])]:
            self.assertEqual(untouched(both_held, sort, v, u), found, (sort, v, u))
            self.assertEqual(untouched(both_held, sort, u, v), found, (sort, u, v))

    def test_they_are_the_least_that_hold_both(self):
        for sort, number, length in [(LANE, 0, 2), (HEAP, 0, 2), (("heap", COUNT), 2, 2), (("lane", COUNT), 2, 2),
                                     (("both", HEAP, COUNT), 1, 2), (("heap", EITHER), 1, 1)]:
            some = universe(sort, number, length)
            more = universe(sort, number, 2 * length)
            for v in some:
                for u in some:
                    found = least_told(sort, [w for w in more if above(sort, w, v) and above(sort, w, u)])
                    self.assertEqual(both_held(sort, v, u), found, (sort, v, u))

    def test_random_values_by_the_words(self):
        many = 0
        for seed in range(250):
            draw = random.Random(seed)
            sort = some_sort(draw, 4, 3)
            v, u = some_value(draw, sort, 3, 4), some_value(draw, sort, 3, 3)
            self.assertEqual(ways(sort, v, u), told_ways(sort, v, u), (sort, v, u))
            if ways(sort, v, u) > 500:
                many += 1
                self.assertEqual(kept(TooMany, both_held, sort, v, u), {})
                continue
            found = told_held(sort, v, u)
            if all(is_value(sort, w) for w in found):
                self.assertEqual(untouched(both_held, sort, v, u), found, (sort, v, u))
            else:
                self.assertEqual(kept(TooMany, both_held, sort, v, u), {})
        self.assertGreater(many, 0)

    def test_ways(self):
        for sort, v, u, many in [
                (AB, "a", "b", 1), (COUNT, 1, 1, 1), (PAIR, (1, 2), (3, 4), 1), (EITHER, ("left", 1), ("right", ()), 1),
                (EITHER, ("right", ("a",)), ("right", ("b",)), 3), (LANE, (), ("a",) * 8, 1), (HEAP, (), ("a",) * 8, 1),
                (LANE, ("a",) * 4, ("b",) * 4, 321), (LANE, ("a",) * 8, ("b",) * 2, 145), (LANE, ("a",) * 8, ("b",), 17),
                (HEAP, ("a",) * 4, ("b",) * 4, 209), (HEAP, ("a",) * 8, ("b",) * 8, 1441729),
                (LANE, ("a",) * 8, ("b",) * 8, 265729), (("both", LANE, HEAP), (("a",), ("a",)), (("a",), ("a",)), 6),
                (("lane", LANE), (("a",),), (("b",),), 5), (("heap", LANE), (("a",),), (("b",),), 4),
                (("heap", LANE), (("a",), ("a", "a")), (("b",), ()), 1 + 3 + 1 + 5 + 1 + 3 * 1 + 1 * 5),
                (STORES, V500, U500, 500), (("heap", STORES), (V500,), (U500,), 501)]:
            self.assertEqual(ways(sort, v, u), many, (sort, v, u))
            self.assertEqual(ways(sort, u, v), many, (sort, u, v))

    def test_500_ways_and_501(self):
        found = both_held(STORES, V500, U500)
        self.assertEqual(len(found), len(both_held(LANE, V500[0][0], U500[0][0])))
        self.assertEqual(kept(TooMany, both_held, ("heap", STORES), (V500,), (U500,)), {})
        # Also where nothing holds both, and where one value holds the other one.
        pair = ("both", AB, ("heap", STORES))
        self.assertEqual(ways(pair, ("a", (V500,)), ("b", (U500,))), 501)
        self.assertEqual(kept(TooMany, both_held, pair, ("a", (V500,)), ("b", (U500,))), {})
        self.assertEqual(both_held(("both", AB, STORES), ("a", V500), ("b", U500)), [])
        self.assertEqual(kept(TooMany, both_held, LANE, ("a",) * 5, ("a",) * 5), {})

    def test_what_passes_the_bounds(self):
        self.assertEqual(both_held(LANE, ("a",) * 8, ("a",)), [("a",) * 8])
        self.assertEqual(kept(TooMany, both_held, LANE, ("a",) * 8, ("b",)), {})
        self.assertEqual(len(both_held(LANE, ("a",) * 7, ("b",))), 8)
        self.assertEqual(both_held(HEAP, ("a",) * 7, ("b",)), [("a",) * 7 + ("b",)])
        self.assertEqual(kept(TooMany, both_held, HEAP, ("a",) * 8, ("b",)), {})
        # Within another heap: the two lanes side by side are a value, both in one are none.
        self.assertEqual(kept(TooMany, both_held, ("heap", LANE), (("a",) * 8,), (("b",),)), {})
        self.assertEqual(kept(TooMany, both_held, ("both", LANE, COUNT), (("a",) * 8, 1), (("b",), 2)), {})
        self.assertEqual(both_held(("either", LANE, LANE), ("left", ("a",) * 8), ("right", ("b",))), [])
        self.assertEqual(both_held(("both", AB, LANE), ("a", ("a",) * 8), ("b", ("b",))), [])

    def test_large_values_have_too_many_ways_soon(self):
        deep, v, u = ("lane", ("heap", ("lane", ("heap", COUNT)))), 1, 2
        for _ in range(4):
            v, u = (v,) * 8, (u,) * 8
        self.assertEqual(kept(TooMany, both_held, deep, v, u), {})
        self.assertEqual(kept(TooMany, both_held, deep, v[:1], u[:1]), {})
        self.assertGreater(ways(deep, v, u), 10 ** 100)


class Common(unittest.TestCase):

    def test_empty_lists(self):
        self.assertEqual(untouched(common, LANE, [], [("a",)]), [])
        self.assertEqual(untouched(common, LANE, [("a",)], []), [])
        self.assertEqual(common(COUNT, [], []), [])

    def test_lists_need_not_be_least(self):
        self.assertEqual(untouched(common, COUNT, [9, 5, 5], [7, 3, 8]), [5])
        self.assertEqual(untouched(common, PAIR, [(1, 3), (3, 1), (3, 3)], ((2, 2), (2, 2))), [(2, 3), (3, 2)])

    def test_60_values_and_61(self):
        for many in (60, 61):
            some = [(k, many - 1 - k) for k in range(many)]
            if many == 60:
                self.assertEqual(untouched(common, PAIR, some, [(0, 0)]), some)
                self.assertEqual(common(PAIR, [(0, 0), (1, 1)], some), some)
            else:
                self.assertEqual(kept(TooMany, common, PAIR, some, [(0, 0)]), {})
                self.assertEqual(least(PAIR, some), some)
                self.assertEqual(together(PAIR, some, []), some)

    def test_each_two_are_looked_at_as_handed_in(self):
        long = ("a",) * 8
        self.assertEqual(common(LANE, [("b",)], [("b",)]), [("b",)])
        # ("b",) alone would tell the same up-set, but the two others go together, too.
        self.assertEqual(kept(TooMany, common, LANE, [("b",)], [("b",), long]), {})
        self.assertEqual(kept(TooMany, common, ("heap", STORES), [(), (V500,)], [(), (U500,)]), {})

    def test_random_lists_by_the_words(self):
        for seed in range(150):
            draw = random.Random(seed)
            sort = some_sort(draw, 3, 2)
            some = [some_value(draw, sort, 3, 2) for _ in range(draw.randint(0, 3))]
            others = [some_value(draw, sort, 3, 2) for _ in range(draw.randint(0, 3))]
            if any(told_ways(sort, v, u) > 500 for v in some for u in others):
                self.assertEqual(kept(TooMany, common, sort, some, others), {})
                continue
            found = [w for v in some for u in others for w in told_held(sort, v, u)]
            if all(is_value(sort, w) for w in found) and len(least_told(sort, found)) <= 60:
                self.assertEqual(untouched(common, sort, some, others), least_told(sort, found))
            else:
                self.assertEqual(kept(TooMany, common, sort, some, others), {})


if __name__ == "__main__":
    unittest.main()
