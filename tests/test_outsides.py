"""Points 3.5, 3.6 and 3.7: what limits have in common, what lies outside up-sets, the least values outside limits."""

import random
import unittest

from helpers import above, inside, kept, path_of, some_limit, some_sort, some_value, universe, untouched
from limit_words import A, AB, ABC, ALL, B, C, COUNT, EITHER, HEAP, LANE, PAIR, bag, often, once, pair, row, to
from lossbars.errors import BadLimit, BadValue, TooMany
from lossbars.leasts import is_least, least
from lossbars.limits import everything, is_limit, limit_list, limit_of, shaped
from lossbars.meets import met_limits
from lossbars.outsides import beyond, least_outside, outside


def many_values(sort):
    """Small values of a sort, as many as are soon looked at."""
    for number, length in [(3, 4), (3, 3), (2, 3), (2, 2), (1, 2)]:
        if count(sort, number, length) < 1500:
            return universe(sort, number, length)
    return universe(sort, 1, 1)


def count(sort, number, length):
    """About how many values universe tells."""
    if sort[0] == "mark":
        return len(sort[1])
    if sort[0] == "count":
        return number + 1
    parts = [count(part, number, length if sort[0] in ("both", "either") else length - 1) for part in sort[1:]]
    if sort[0] == "both":
        return parts[0] * parts[1]
    return sum(parts) if sort[0] == "either" else sum(parts[0] ** k for k in range(length + 1))


class Met(unittest.TestCase):

    def meet(self, sort, one, two, found):
        self.assertEqual(untouched(met_limits, sort, one, two), found)
        self.assertEqual(untouched(met_limits, sort, two, one), found)
        self.assertEqual(limit_list(sort, found), found)

    def test_words(self):
        self.meet(ABC, A, A, [A])
        self.meet(ABC, A, B, [])
        self.meet(COUNT, to(3), ALL, [to(3)])
        self.meet(COUNT, to(3), to(5), [to(3)])
        self.meet(COUNT, ALL, ALL, [ALL])
        self.meet(PAIR, pair(to(3), ALL), pair(to(5), to(2)), [pair(to(3), to(2))])
        self.meet(("both", AB, COUNT), pair(A, ALL), pair(B, ALL), [])
        self.meet(EITHER, ("left", to(3)), ("left", to(1)), [("left", to(1))])
        self.meet(EITHER, ("left", to(3)), ("right", A), [])

    def test_rows(self):
        self.meet(LANE, row(), row(often(A)), [row()])
        self.meet(LANE, row(once(A)), row(once(B)), [row()])
        self.meet(LANE, row(once(A), once(B)), row(once(B), once(A)), [row(once(A)), row(once(B))])
        self.meet(LANE, row(once(A), once(B), once(A)), row(often(A), once(C)), [row(once(A), once(A))])
        self.meet(LANE, row(often(A, B)), row(often(C, B)), [row(often(B))])
        self.meet(LANE, row(often(A, B), once(C)), row(once(C), often(A, B)), [row(once(C)), row(often(A, B))])
        self.meet(LANE, row(often(A), often(B)), row(often(B), often(A)), [row(often(A)), row(often(B))])
        self.meet(("lane", COUNT), row(once(to(2)), once(to(5))), row(once(to(3)), once(to(4))),
                  [row(once(to(2)), once(to(4)))])
        self.meet(("lane", COUNT), row(often(to(2)), once(ALL)), row(once(to(5)), often(to(3))),
                  [row(once(to(5))), row(often(to(2)), once(to(3)))])

    def test_bags(self):
        self.meet(HEAP, bag([], []), bag([A], [B]), [bag([], [])])
        self.meet(HEAP, bag([A, B], []), bag([C, B], []), [bag([B], [])])
        self.meet(HEAP, bag([A, A], [C]), bag([C, B], [A]), [bag([C, A, A], [])])
        self.meet(HEAP, bag([A], [C, B]), bag([B], [C, A]), [bag([A, B], [C])])
        numbers = ("heap", COUNT)
        self.meet(numbers, bag([to(3), to(7)], []), bag([to(5)], [to(2)]), [bag([to(2), to(5)], [])])
        self.meet(numbers, bag([ALL], [to(2)]), bag([to(5), to(5)], [to(1)]), [bag([to(2), to(5)], [to(1)])])
        pairs = ("heap", PAIR)
        # What two onces have in common may lie within often: then it adds nothing.
        self.meet(pairs, bag([pair(to(2), to(5))], [pair(to(2), to(2))]), bag([pair(to(5), to(2))], [pair(to(2), to(2))]),
                  [bag([], [pair(to(2), to(2))])])

    def test_random_ones(self):
        for seed in range(120):
            draw = random.Random(seed)
            sort = some_sort(draw, 4, 2)
            one, two = (shaped(sort, some_limit(draw, sort, 2, 3)) for _ in range(2))
            found = untouched(met_limits, sort, one, two)
            self.assertTrue(all(is_limit(sort, limit) for limit in found))
            self.assertEqual(limit_list(sort, found), found)
            for v in many_values(sort):
                self.assertIs(any(inside(sort, limit, v) for limit in found),
                              inside(sort, one, v) and inside(sort, two, v), (sort, one, two, v))


class Beyond(unittest.TestCase):

    def test_examples(self):
        lane, heap = ("lane", AB), ("heap", AB)
        self.assertEqual([beyond(COUNT, 3), beyond(lane, ("a", "b")), beyond(heap, ("a", "a")), beyond(COUNT, 0)],
                         [[to(2)], [row(often(B), often(A))], [bag([A], [B])], []])
        self.assertEqual([least_outside(lane, [row(often(A))]), least_outside(heap, [bag([A], [B])])],
                         [[("b",)], [("a", "a")]])

    def test_words(self):
        for sort, v, found in [
                (ABC, "a", [C, B]), (("mark", ("a",)), "a", []), (COUNT, 99, [to(98)]), (COUNT, 1, [to(0)]),
                (PAIR, (2, 0), [pair(to(1), ALL)]), (PAIR, (2, 3), [pair(to(1), ALL), pair(ALL, to(2))]),
                (PAIR, (0, 0), []), (("both", AB, COUNT), ("a", 2), [pair(A, to(1)), pair(B, ALL)]),
                (EITHER, ("left", 0), [("right", A), ("right", B)]),
                (EITHER, ("left", 5), [("left", to(4)), ("right", A), ("right", B)]),
                (EITHER, ("right", "a"), [("left", ALL), ("right", B)]), (LANE, (), []), (HEAP, (), []),
                (LANE, ("a",), [row(often(C, B))]), (LANE, ("a", "a"), [row(often(C, B), once(A), often(C, B))]),
                (("lane", COUNT), (0,), [row()]), (("lane", COUNT), (0, 0), [row(once(ALL))]),
                (("lane", COUNT), (2, 5), [row(often(to(1)), once(ALL), often(to(4)))]),
                (HEAP, ("a", "a", "b"), [bag([], [C, A]), bag([A], [C, B])]),
                (("heap", COUNT), (0, 0, 0), [bag([ALL, ALL], [])]),
                (("heap", COUNT), (1, 3), [bag([], [to(2)]), bag([ALL], [to(0)])])]:
            self.assertEqual(untouched(beyond, sort, v), found, (sort, v))

    def test_random_values(self):
        for seed in range(120):
            draw = random.Random(seed)
            sort = some_sort(draw, 4, 2)
            v = some_value(draw, sort, 3, 3)
            found = untouched(beyond, sort, v)
            self.assertTrue(all(is_limit(sort, limit) for limit in found))
            self.assertEqual(limit_list(sort, found), found)
            for w in many_values(sort):
                self.assertIs(any(inside(sort, limit, w) for limit in found), not above(sort, w, v), (sort, v, w))

    def test_wrong_values(self):
        self.assertEqual(path_of(BadValue, beyond, LANE, ("a", 1)), (1,))
        self.assertEqual(path_of(BadValue, beyond, HEAP, ("a", "c")), ())


class Outside(unittest.TestCase):

    def test_no_values(self):
        for sort in [ABC, COUNT, PAIR, EITHER, LANE, HEAP]:
            self.assertEqual(untouched(outside, sort, []), everything(sort))
            self.assertEqual(outside(sort, (), limits=1), everything(sort))

    def test_least_values(self):
        self.assertEqual(untouched(outside, LANE, [()]), [])
        self.assertEqual(outside(COUNT, [5, 0, 7]), [])
        self.assertEqual(outside(COUNT, [5, 7]), [to(4)])
        self.assertEqual(outside(ABC, ["a", "c"]), [B])
        self.assertEqual(outside(ABC, ["a", "c", "b"]), [])

    def test_some(self):
        self.assertEqual(untouched(outside, PAIR, [(2, 5), (5, 2)]),
                         [pair(to(1), ALL), pair(to(4), to(4)), pair(ALL, to(1))])
        self.assertEqual(untouched(outside, ("lane", AB), [("a", "b"), ("b", "a")]), [row(often(A)), row(often(B))])
        self.assertEqual(untouched(outside, HEAP, [("a", "b"), ("c",)]), [bag([], [A]), bag([], [B])])

    def test_the_cap_at_its_edge(self):
        staircase = [(5, 25), (10, 20), (15, 15)]
        self.assertEqual(len(outside(PAIR, staircase)), 4)
        self.assertEqual(outside(PAIR, staircase, limits=4), outside(PAIR, staircase))
        self.assertEqual(kept(TooMany, outside, PAIR, staircase, limits=3), {})
        # It holds for each list on the way, and for what one limit has in common.
        self.assertEqual(kept(TooMany, outside, PAIR, staircase + [(0, 1)], limits=3), {})
        self.assertEqual(outside(PAIR, [(0, 1)] + staircase, limits=1), [pair(ALL, to(0))])
        self.assertEqual(kept(TooMany, outside, PAIR, [(1, 1)], limits=1), {})
        self.assertEqual(outside(EITHER, [("left", 0)], limits=2), [("right", A), ("right", B)])
        self.assertEqual(kept(TooMany, outside, EITHER, [("left", 1)], limits=2), {})
        self.assertEqual(outside(EITHER, [("left", 1)], limits=3), [("left", to(0)), ("right", A), ("right", B)])

    def test_what_one_limit_brings_may_pass_the_cap_alone(self):
        numbers, some = ("lane", COUNT), [(3, 0), (1, 1, 3), (0, 2)]
        self.assertEqual([len(outside(numbers, some[:many])) for many in range(4)], [1, 1, 2, 2])
        # One of the two limits brings three, and one of these lies within what the other one brings.
        self.assertEqual(kept(TooMany, outside, numbers, some, limits=2), {})
        self.assertEqual(outside(numbers, some, limits=3), outside(numbers, some))

    def test_random_caps_at_their_edges(self):
        for seed in range(80):
            draw = random.Random(seed)
            sort = some_sort(draw, 4, 2)
            some = [some_value(draw, sort, 3, 2) for _ in range(draw.randint(1, 3))]
            found, most = everything(sort), 0
            for v in some:
                each = [[limit for other in beyond(sort, v) for limit in met_limits(sort, one, other)] for one in found]
                each = [limit_list(sort, brought) for brought in each]
                found = limit_list(sort, [limit for brought in each for limit in brought])
                most = max([most, len(found)] + [len(brought) for brought in each])
            self.assertEqual(outside(sort, some, limits=max(1, most)), found)
            if most > 1:
                self.assertEqual(kept(TooMany, outside, sort, some, limits=most - 1), {})

    def test_60_limits_and_61(self):
        some = [(k + 1, 59 - k) for k in range(59)]
        self.assertEqual(len(untouched(outside, PAIR, some)), 60)
        more = [(k + 1, 60 - k) for k in range(60)]
        self.assertEqual(kept(TooMany, outside, PAIR, more), {})

    def test_what_passes_the_bounds(self):
        # At most seven a and one b, with c between: seventeen pieces. With two b there are nineteen.
        found = untouched(outside, LANE, [("a",) * 8, ("b",) * 2])
        self.assertEqual([len(limit[1]) for limit in found], [17] * 8)
        self.assertTrue(all(is_limit(LANE, limit) for limit in found))
        self.assertEqual(kept(TooMany, outside, LANE, [("a",) * 8, ("b",) * 3]), {})
        self.assertEqual(len(outside(LANE, [("a",) * 7, ("b",) * 2])), 7)
        self.assertEqual(len(outside(("lane", COUNT), [(2,) * 8])[0][1]), 15)
        bags = ("heap", PAIR)
        found = outside(bags, [((1, 0),) * 5, ((0, 1),) * 4])
        self.assertEqual(max(len(limit[1]) for limit in found), 7)
        self.assertEqual(kept(TooMany, outside, bags, [((1, 0),) * 6, ((0, 1),) * 5]), {})

    def test_errors_go_ahead(self):
        self.assertEqual(path_of(BadValue, outside, PAIR, [(5, 5), (1, 1), (100, 0)], limits=1), (2, 0))
        self.assertEqual(path_of(BadValue, outside, HEAP, [(), ("a", "c"), None]), (1,))

    def test_random_lists_and_back(self):
        for seed in range(80):
            draw = random.Random(seed)
            sort = some_sort(draw, 4, 2)
            some = [some_value(draw, sort, 3, 2) for _ in range(draw.randint(1, 3))]
            found = untouched(outside, sort, some)
            self.assertTrue(all(is_limit(sort, limit) for limit in found))
            self.assertEqual(limit_list(sort, found), found)
            for w in many_values(sort):
                self.assertIs(any(inside(sort, limit, w) for limit in found),
                              not any(above(sort, w, v) for v in some), (sort, some, w))
            self.assertEqual(least_outside(sort, found), least(sort, some))


class LeastOutside(unittest.TestCase):

    def test_no_limits(self):
        for sort in [ABC, COUNT, PAIR, EITHER, LANE, HEAP, ("both", ABC, ABC)]:
            found = least(sort, universe(sort, 0, 0))
            self.assertEqual(untouched(least_outside, sort, []), found)
            self.assertEqual(least_outside(sort, (), values=1), found)

    def test_words(self):
        for sort, limits, found in [
                (ABC, [A], ["c", "b"]), (ABC, [A, B, C], []), (COUNT, [to(3)], [4]), (COUNT, [ALL], []),
                (COUNT, [to(98)], [99]), (PAIR, [pair(to(1), to(2))], [(0, 3), (2, 0)]),
                (PAIR, [pair(to(1), ALL), pair(ALL, to(2))], [(2, 3)]),
                (EITHER, [("left", to(2))], [("left", 3), ("right", "a"), ("right", "b")]),
                (EITHER, [("right", A), ("left", ALL)], [("right", "b")]), (LANE, [row()], [("c",), ("a",), ("b",)]),
                (LANE, [row(often(C, A, B))], []), (LANE, [row(often(C, A))], [("b",)]),
                (LANE, [row(often(A, B), once(C), often(A, B))], [("c", "c")]),
                (("lane", COUNT), [row(once(to(2)), often(to(1)))], [(0, 2), (3,)]),
                (HEAP, [bag([], [])], [("c",), ("a",), ("b",)]), (HEAP, [bag([A], [C])], [("a", "a"), ("b",)]),
                (("heap", COUNT), [bag([to(1), to(3)], [])], [(0, 0, 0), (2, 2), (4,)]),
                (("heap", COUNT), [bag([ALL], [to(4)])], [(5, 5)])]:
            self.assertEqual(untouched(least_outside, sort, limits), found, (sort, limits))
            self.assertEqual(least_outside(sort, tuple(limits)), found)
            self.assertIs(is_least(sort, found), True)

    def test_the_cap_at_its_edge(self):
        four = [pair(to(2), to(9)), pair(to(5), to(5)), pair(to(9), to(2))]
        self.assertEqual(least_outside(PAIR, four), [(0, 10), (3, 6), (6, 3), (10, 0)])
        self.assertEqual(least_outside(PAIR, four, values=4), least_outside(PAIR, four))
        self.assertEqual(kept(TooMany, least_outside, PAIR, four, values=3), {})
        # What is outside one limit alone counts, too.
        self.assertEqual(kept(TooMany, least_outside, ABC, [A], values=1), {})
        self.assertEqual(kept(TooMany, least_outside, ABC, [A, B, C], values=1), {})
        self.assertEqual(least_outside(ABC, [A, B, C], values=2), [])
        three = ("both", COUNT, ("both", COUNT, COUNT))
        self.assertEqual(len(least_outside(three, [pair(to(1), pair(to(1), to(1)))], values=3)), 3)
        self.assertEqual(kept(TooMany, least_outside, three, [pair(to(1), pair(to(1), to(1)))], values=2), {})
        self.assertEqual(least_outside(COUNT, [ALL, to(99)], values=1), [])
        # What is outside the second limit alone has two values, though one is enough for both.
        self.assertEqual(kept(TooMany, least_outside, PAIR, [pair(to(4), ALL), pair(to(3), to(5))], values=1), {})
        self.assertEqual(least_outside(PAIR, [pair(to(4), ALL), pair(to(3), to(5))], values=2), [(5, 0)])

    def test_60_values_outside_one_limit_and_61(self):
        sort = ("either", ("heap", PAIR), ABC)
        for many in (57, 58):
            steps = bag([], [pair(to(k), to(many - 2 - k)) for k in range(many - 1)])
            limits = [("left", bag([], [pair(ALL, ALL)])), ("left", steps)]
            if many == 57:
                self.assertEqual(least_outside(sort, limits), [("right", "c"), ("right", "a"), ("right", "b")])
                self.assertEqual(len(least_outside(sort, limits[1:])), 60)
            else:
                self.assertEqual(kept(TooMany, least_outside, sort, limits), {})

    def test_random_caps_at_their_edges(self):
        for seed in range(200):
            draw = random.Random(seed)
            sort = some_sort(draw, 4, 2)
            limits = [shaped(sort, some_limit(draw, sort, 3, 3)) for _ in range(draw.randint(1, 2))]
            # All that lies on the way: what is outside each one alone, and outside the first ones together.
            found = [least_outside(sort, [limit]) for limit in limits] + [least_outside(sort, limits)]
            most = max(len(row_found) for row_found in found)
            self.assertEqual(least_outside(sort, limits, values=max(1, most)), found[-1])
            if most > 1:
                self.assertEqual(kept(TooMany, least_outside, sort, limits, values=most - 1), {})

    def test_rows_and_bags_with_the_cap_at_its_edge(self):
        # With too high a number of values outside a limit the cap would be passed; with too low a one it would not.
        for seed in range(150):
            draw = random.Random(seed)
            inner = draw.choice([COUNT, PAIR, EITHER, ("both", AB, COUNT), ("lane", COUNT), ("heap", COUNT)])
            sort = (draw.choice(["lane", "heap"]), inner)
            limit = shaped(sort, some_limit(draw, sort, 3, 3))
            found = least_outside(sort, [limit])
            self.assertEqual(outside(sort, found), [limit])
            self.assertEqual(least_outside(sort, [limit], values=max(1, len(found))), found)
            if len(found) > 1:
                self.assertEqual(kept(TooMany, least_outside, sort, [limit], values=len(found) - 1), {})

    def test_60_values_and_61(self):
        limits = [pair(to(k), to(58 - k)) for k in range(59)]
        self.assertEqual(least_outside(PAIR, limits), [(k, 59 - k) for k in range(60)])
        self.assertEqual(kept(TooMany, least_outside, PAIR, [pair(to(k), to(59 - k)) for k in range(60)]), {})
        letters = ("both", ABC, ("both", ABC, ABC))
        heap = ("heap", letters)
        self.assertEqual(len(least_outside(heap, [bag([], [])])), 27)
        self.assertEqual(len(least_outside(("lane", letters), [row()])), 27)
        # Lanes of two out of 27 components: one once takes but one of them.
        many = [pair(C, pair(C, C))]
        self.assertEqual(len(least_outside(("lane", letters), [row(once(many[0]))])), 27)
        self.assertEqual(kept(TooMany, least_outside, ("lane", ("both", COUNT, ABC)),
                              [row(once(pair(ALL, A)), once(pair(ALL, B)), once(pair(ALL, C)), once(pair(ALL, A)),
                                   once(pair(ALL, B)))], values=5), {})

    def test_what_passes_the_bounds(self):
        self.assertEqual(kept(TooMany, least_outside, COUNT, [to(99)]), {})
        self.assertEqual(kept(TooMany, least_outside, PAIR, [pair(to(99), to(3))]), {})
        numbers = ("lane", COUNT)
        self.assertEqual(least_outside(numbers, [row(*[once(ALL)] * 7)]), [(0,) * 8])
        self.assertEqual(kept(TooMany, least_outside, numbers, [row(*[once(ALL)] * 8)]), {})
        self.assertEqual(least_outside(("heap", COUNT), [bag([ALL] * 7, [])]), [(0,) * 8])
        self.assertEqual(kept(TooMany, least_outside, ("heap", COUNT), [bag([ALL] * 8, [])]), {})
        # Beside values of the other side alone it is not told, so nothing is too long.
        side = ("either", ("mark", ("a",)), COUNT)
        self.assertEqual(least_outside(side, [("right", ALL), ("left", A)]), [])
        self.assertEqual(kept(TooMany, least_outside, side, [("right", to(99))]), {})
        self.assertEqual(least_outside(side, [("right", ALL), ("right", to(99))], values=2), [("left", "a")])

    def test_where_common_raises_it(self):
        # What is outside each of the rows is one lane of five elements: together they have too many ways.
        lane = ("lane", AB)
        one, two = row(*[once(A)] * 4), row(*[once(B)] * 4)
        limits = [row(often(B), *[piece for _ in range(4) for piece in (once(A), often(B))]),
                  row(often(A), *[piece for _ in range(4) for piece in (once(B), often(A))])]
        self.assertEqual([least_outside(lane, [limit]) for limit in limits], [[("a",) * 5], [("b",) * 5]])
        self.assertEqual(kept(TooMany, least_outside, lane, limits), {})
        self.assertEqual(least_outside(lane, [one]), [("a",) * 5, ("b",)])
        self.assertEqual(least_outside(lane, [two]), [("a",), ("b",) * 5])

    def test_errors_go_ahead(self):
        limits = [pair(to(99), ALL), pair(ALL, to(100))]
        self.assertEqual(path_of(BadLimit, least_outside, PAIR, limits, values=1), (1, 2))
        self.assertEqual(path_of(BadLimit, least_outside, LANE, [row(), row(often(A), once(A))]), (1,))

    def test_random_lists_and_back(self):
        for seed in range(120):
            draw = random.Random(seed)
            sort = some_sort(draw, 4, 2)
            limits = [shaped(sort, some_limit(draw, sort, 2, 2)) for _ in range(draw.randint(1, 3))]
            found = untouched(least_outside, sort, limits)
            self.assertIs(is_least(sort, found), True)
            for w in many_values(sort):
                self.assertIs(any(above(sort, w, v) for v in found),
                              not any(inside(sort, limit, w) for limit in limits), (sort, limits, w))
            self.assertEqual(outside(sort, found), limit_list(sort, limits))

    def test_larger_limits_and_back(self):
        pairs = ("both", COUNT, AB)
        for sort, limit in [
                (("heap", PAIR), bag([pair(to(3), to(9)), pair(to(5), to(5)), pair(ALL, to(2))], [pair(to(1), to(1))])),
                (("heap", pairs), bag([pair(to(3), A), pair(ALL, A), pair(to(4), B), pair(to(7), B)], [pair(to(1), A)])),
                (("lane", PAIR), row(once(pair(to(3), to(9))), often(pair(to(5), to(5)), pair(ALL, to(2))),
                                     once(pair(to(7), to(7))))),
                (("lane", ("heap", AB)), row(once(bag([A, A], [])), often(bag([A], [B])), once(bag([B, A], [])))),
                (("heap", ("lane", AB)), bag([row(once(A), once(B)), row(often(B))], [row(once(A))])),
                (("lane", ("either", AB, ("lane", COUNT))),
                 row(often(("left", A), ("right", row(once(to(3))))), once(("right", row(often(to(1)))))))]:
            limit = shaped(sort, limit)
            found = least_outside(sort, [limit])
            self.assertGreater(len(found), 1)
            self.assertEqual(outside(sort, found), [limit], (sort, limit))

    def test_what_a_value_holds_and_back(self):
        for sort, v in [(("heap", COUNT), (1, 3, 3)), (("lane", COUNT), (3, 1)), (HEAP, ("c", "a", "a")), (LANE, ("a", "c"))]:
            found = least_outside(sort, [limit_of(sort, v)])
            for w in many_values(sort):
                self.assertIs(any(above(sort, w, u) for u in found), not above(sort, v, w))


if __name__ == "__main__":
    unittest.main()
