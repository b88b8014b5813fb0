"""Points 3.1 to 3.5: limits, their one form, their order, which lie within which, what lies inside them."""

import random
import unittest

from helpers import ODD, inside, least_values_of, path_of, some_limit, some_sort, some_value, universe, untouched
from limit_words import A, AB, ABC, ALL, B, C, COUNT, EITHER, HEAP, LANE, PAIR, bag, often, once, pair, row, to
from lossbars.errors import BadLimit, BadSort, BadValue
from lossbars.limits import (
    everything, is_inside, is_limit, lies_within, limit_list, limit_of, ordered_limits, shaped)
from lossbars.meets import met_limits
from lossbars.outsides import beyond, least_outside, outside


class Forms(unittest.TestCase):

    def right(self, sort, limit):
        self.assertIs(is_limit(sort, limit), True, limit)
        self.assertEqual(untouched(shaped, sort, limit), limit)
        self.assertIs(lies_within(sort, limit, limit), True)

    def shapes(self, sort, data, limit):
        self.right(sort, limit)
        self.assertEqual(untouched(shaped, sort, data), limit)
        self.assertIs(is_limit(sort, data), False)
        self.assertEqual(path_of(BadLimit, limit_list, sort, [limit, data]), (1,))

    def wrong(self, sort, data, path):
        self.assertEqual(path_of(BadLimit, shaped, sort, data), path, data)
        self.assertIs(is_limit(sort, data), False)
        for call in [ordered_limits, limit_list, least_outside]:
            self.assertEqual(path_of(BadLimit, call, sort, [data]), (0,) + path)
        self.assertEqual(path_of(BadLimit, is_inside, sort, data, None), path)
        for call in [lies_within, met_limits]:
            self.assertEqual(path_of(BadLimit, call, sort, data, None), path)

    def test_right_ones(self):
        for sort, limit in [
                (AB, A), (COUNT, to(0)), (COUNT, to(99)), (COUNT, ALL), (PAIR, pair(to(3), ALL)),
                (EITHER, ("left", ALL)), (EITHER, ("right", B)), (LANE, row()), (LANE, row(once(A), once(A))),
                (LANE, row(often(C, A), once(B), often(A))), (HEAP, bag([], [])), (HEAP, bag([A, A, B], [C])),
                (("lane", LANE), row(once(row(once(A), once(B))), often(row(once(B)), row(often(A))))),
                (LANE, row(often(A), often(B))), (("heap", COUNT), bag([to(3), to(3), ALL], [to(2)]))]:
            self.right(sort, limit)

    def test_things_of_other_kinds(self):
        for value in ODD:
            for sort in [AB, COUNT, PAIR, EITHER, LANE, HEAP]:
                if sort != EITHER or value != ("left",):
                    self.wrong(sort, value, ())
            self.wrong(LANE, row(once(A), value), (1, 1))
            self.wrong(LANE, row(once(A), once(value)), (1, 1, 1))
            self.wrong(LANE, row(often(A, value)), (1, 0, 1, 1))
            self.wrong(HEAP, bag([A, value], []), (1, 1))
            self.wrong(HEAP, bag([A], [A, B, value]), (2, 2))
            self.wrong(PAIR, pair(ALL, value), (2,))
            self.wrong(EITHER, ("left", value), (1,))

    def test_letters_and_numbers(self):
        for limit in [("is",), ("is", "d"), ("is", 1), ("is", "a", "b"), ("Is", "a"), ["is", "a"], ("is", ["a"]), "a"]:
            self.wrong(ABC, limit, ())
        for limit in [("to",), ("to", -1), ("to", 100), ("to", True), ("to", None), ("to", 1, 2), ["to", 1], ("all", 1),
                      "all", ["all"], ("all", ()), ("al",), ("to", "1")]:
            self.wrong(COUNT, limit, ())

    def test_pairs_and_sides(self):
        for limit in [("pair", ALL), ("pair", ALL, ALL, ALL), ["pair", ALL, ALL], (ALL, ALL), ("both", ALL, ALL)]:
            self.wrong(PAIR, limit, ())
        self.wrong(PAIR, pair(to(100), None), (1,))
        self.wrong(PAIR, pair(to(99), None), (2,))
        for limit in [("left",), ("left", ALL, ALL), ["left", ALL], ("middle", ALL), (["left"], ALL), ALL]:
            self.wrong(EITHER, limit, ())
        self.wrong(EITHER, ("right", ALL), (1,))
        self.wrong(EITHER, ("left", A), (1,))

    def test_rows_and_bags(self):
        for limit in [("row",), ("row", [once(A)]), ("row", once(A), once(B)), ("row", "ab"), ("row", None), ["row", ()],
                      ("bag", (), ()), ("row", {})]:
            self.wrong(LANE, limit, ())
        for piece in [("once",), ("once", A, A), ["once", A], ("never", A), A, ("often", [A]), ("often", None),
                      ("often", A, A), ("often", "a")]:
            self.wrong(LANE, row(once(A), piece, None), (1, 1))
        # An often holds a tuple of limits: what stands there for a limit is none.
        self.wrong(LANE, row(("often", A)), (1, 0, 1, 0))
        for limit in [("bag",), ("bag", ()), ("bag", (), (), ()), ("bag", [], ()), ("bag", (), []), ["bag", (), ()],
                      ("bag", None, ()), ("row", ())]:
            self.wrong(HEAP, limit, ())
        self.wrong(HEAP, ("bag", (None,), []), ())

    def test_the_first_thing_that_is_wrong(self):
        deep = ("both", ("lane", ("heap", COUNT)), EITHER)
        self.wrong(deep, pair(row(once(bag([], [])), often(bag([to(1), 5], [6]))), None), (1, 1, 1, 1, 0, 1, 1))
        self.wrong(deep, pair(row(once(bag([], [])), often(bag([to(1)], [ALL, 6]), 7)), None), (1, 1, 1, 1, 0, 2, 1))
        self.wrong(deep, pair(row(once(bag([], ())), ("often", [])), None), (1, 1, 1))
        self.wrong(deep, pair(row(once(("bag", [], ())), ("often", [])), None), (1, 1, 0, 1))
        self.wrong(deep, pair(row(often(), often()), ("left", A)), (2, 1))

    def test_seventeen_pieces_and_eighteen(self):
        self.right(LANE, row(*[once(A)] * 17))
        self.wrong(LANE, row(*[once(A)] * 18), ())
        # As handed in: it does not matter that one would do.
        self.shapes(LANE, row(*[often(A)] * 17), row(often(A)))
        self.wrong(LANE, row(*[often(A)] * 18), ())
        self.wrong(LANE, row(*[often()] * 18), ())
        self.wrong(("lane", LANE), row(often(row(), row(*[once(A)] * 18))), (1, 0, 1, 1))

    def test_eight_onces_and_nine(self):
        self.right(HEAP, bag([A] * 8, []))
        self.wrong(HEAP, bag([A] * 9, []), ())
        self.wrong(HEAP, bag([A] * 9, [A]), ())
        self.shapes(HEAP, bag([A] * 8, [A]), bag([], [A]))

    def test_oftens_have_as_many_limits_as_one_likes(self):
        self.shapes(LANE, row(often(*[A, B, C] * 50)), row(often(C, A, B)))
        self.shapes(("heap", COUNT), bag([], [to(k) for k in range(100)] * 3), bag([], [to(99)]))

    def test_one_form_of_rows(self):
        for data, limit in [
                (row(often()), row()), (row(often(B, A)), row(often(A, B))), (row(often(A, A)), row(often(A))),
                (row(once(A), often(A)), row(often(A))), (row(often(A), once(A)), row(often(A))),
                (row(often(A), often(A)), row(often(A))), (row(often(A), often(B, A)), row(often(A, B))),
                (row(often(A, B), often(B)), row(often(A, B))),
                (row(once(A), once(B), once(A), often(A, B)), row(often(A, B))),
                (row(often(A), once(B), often(A, B), once(B), once(C)), row(often(A, B), once(C))),
                (row(often(A), often(), once(A)), row(often(A))),
                (row(often(A), often(), often(A)), row(often(A))),
                (row(often(A, B), once(C), often(C, A)), row(often(A, B), often(C, A))),
                (row(once(A), often(B), often(B)), row(once(A), often(B)))]:
            self.shapes(LANE, data, limit)
        numbers = ("lane", COUNT)
        self.shapes(numbers, row(often(to(3), ALL, to(5))), row(often(ALL)))
        self.shapes(numbers, row(once(to(9)), often(to(5)), once(to(4)), once(to(6))), row(once(to(9)), often(to(5)),
                                                                                         once(to(6))))
        self.shapes(("lane", PAIR), row(often(pair(ALL, to(1)), pair(to(2), to(1)), pair(to(1), ALL))),
                    row(often(pair(to(1), ALL), pair(ALL, to(1)))))

    def test_one_form_of_bags(self):
        for data, limit in [
                (bag([B, A], []), bag([A, B], [])), (bag([B, A, C, A], []), bag([C, A, A, B], [])),
                (bag([A, B], [B]), bag([A], [B])), (bag([A, A], [A]), bag([], [A])), (bag([], [B, A, B]), bag([], [A, B]))]:
            self.shapes(HEAP, data, limit)
        self.shapes(("heap", COUNT), bag([to(3), to(7), to(5)], [to(4), to(2)]), bag([to(5), to(7)], [to(4)]))

    def test_one_form_within(self):
        self.shapes(("both", LANE, HEAP), pair(row(often()), bag([B, A], [A])), pair(row(), bag([B], [A])))
        self.shapes(("either", COUNT, LANE), ("right", row(once(A), often(A))), ("right", row(often(A))))
        deep = ("lane", LANE)
        self.shapes(deep, row(often(row(once(A), often(A)), row(often(A, A)))), row(often(row(often(A)))))
        self.shapes(deep, row(once(row(once(A))), often(row(often(B, A)))), row(often(row(often(A, B)))))

    def test_sorts_go_ahead(self):
        for call in [shaped, is_limit, limit_of, beyond]:
            self.assertEqual(path_of(BadSort, call, ("lane", 7), None), (1,))
        for call in [ordered_limits, limit_list, outside, least_outside]:
            self.assertEqual(path_of(BadSort, call, ("both", COUNT, 7), [None]), (2,))
        for call in [is_inside, lies_within, met_limits]:
            self.assertEqual(path_of(BadSort, call, ("lane", 7), None, None), (1,))
        self.assertEqual(path_of(BadSort, everything, ("lane", 7)), (1,))

    def test_what_is_handed_in_has_one_form(self):
        loose = row(once(A), often(A))
        for call in [lies_within, met_limits]:
            self.assertEqual(path_of(BadLimit, call, LANE, loose, None), ())
            self.assertEqual(path_of(BadLimit, call, LANE, row(), loose), ())
            self.assertEqual(path_of(BadLimit, call, LANE, row(), row(None)), (1, 0))
        self.assertEqual(path_of(BadLimit, is_inside, LANE, loose, None), ())
        for call in [ordered_limits, limit_list, least_outside]:
            self.assertEqual(path_of(BadLimit, call, LANE, [row(), loose, None]), (1,))
            self.assertEqual(path_of(BadLimit, call, LANE, (row(), row(once(A), once(5)), loose)), (1, 1, 1, 1))

    def test_limits_go_ahead_of_values(self):
        self.assertEqual(path_of(BadLimit, is_inside, COUNT, to(100), 100), ())
        self.assertEqual(path_of(BadValue, is_inside, COUNT, ALL, 100), ())
        self.assertEqual(path_of(BadValue, is_inside, LANE, row(), ("a", "d")), (1,))
        self.assertEqual(path_of(BadValue, is_inside, HEAP, bag([], []), ("a", "c")), ())
        self.assertEqual(path_of(BadValue, is_inside, LANE, row(), ["a"]), ())
        self.assertEqual(path_of(BadValue, limit_of, HEAP, ("a", "c")), ())
        self.assertEqual(path_of(BadValue, limit_of, PAIR, (1, True)), (1,))


class Order(unittest.TestCase):

    def test_ascending(self):
        for sort, rising in [
                (ABC, [C, A, B]), (COUNT, [to(0), to(9), to(10), to(99), ALL]),
                (PAIR, [pair(to(1), ALL), pair(to(2), to(0)), pair(to(2), ALL), pair(ALL, to(0))]),
                (EITHER, [("left", to(3)), ("left", ALL), ("right", A), ("right", B)]),
                (LANE, [row(), row(once(C)), row(once(C), once(C)), row(once(C), often(A)), row(once(A)),
                        row(often(C)), row(often(C), once(A)), row(often(C), often(A)), row(often(C, A)),
                        row(often(A))]),
                (HEAP, [bag([], []), bag([], [C]), bag([], [C, A]), bag([], [A]), bag([C], []), bag([C], [B]),
                        bag([C, A], []), bag([A], [])])]:
            for seed in range(5):
                mixed = list(rising) + [rising[-1]]
                random.Random(seed).shuffle(mixed)
                self.assertEqual(untouched(ordered_limits, sort, mixed), rising + [rising[-1]])
                self.assertEqual(ordered_limits(sort, tuple(mixed)), rising + [rising[-1]])
            self.assertEqual(untouched(ordered_limits, sort, []), [])

    def test_limit_list(self):
        for sort, some, found in [
                (COUNT, [], []), (COUNT, [to(3), ALL, to(99), ALL], [ALL]), (COUNT, [to(3), to(99)], [to(99)]),
                (ABC, [B, C, B], [C, B]), (EITHER, [("right", A), ("left", to(1)), ("left", to(0))],
                                           [("left", to(1)), ("right", A)]),
                (PAIR, [pair(to(1), to(2)), pair(to(2), to(1)), pair(to(1), to(1))],
                 [pair(to(1), to(2)), pair(to(2), to(1))]),
                (LANE, [row(once(A)), row(), row(once(A), once(B)), row(once(B), once(A)), row(often(A))],
                 [row(once(A), once(B)), row(once(B), once(A)), row(often(A))]),
                (HEAP, [bag([A], []), bag([A, B], []), bag([], [A]), bag([B], [A])], [bag([B], [A])])]:
            self.assertEqual(untouched(limit_list, sort, some), found)
            self.assertEqual(limit_list(sort, tuple(some)), found)

    def test_long_lists(self):
        sort = ("lane", COUNT)
        some = [row(*[once(to(number)) for number in numbers])
                for numbers in [(9, 1), (1, 9), (8, 1), (1, 8), (5, 5), (4, 5), (5,), (9,), (), (1, 5, 1), (3, 3, 3)]]
        self.assertEqual(untouched(limit_list, sort, some), [some[9], some[1], some[10], some[4], some[0]])
        bags = ("heap", COUNT)
        some = [bag([to(number) for number in numbers], []) for numbers in
                [(1, 9), (1, 8), (5, 5), (4, 5), (5,), (9,), (), (1, 1, 5), (3, 3, 3)]]
        self.assertEqual(untouched(limit_list, bags, some), [some[7], some[0], some[8], some[2]])

    def test_very_long_lists(self):
        for sort, form in [(("lane", COUNT), lambda numbers, most: row(*[once(to(k)) for k in numbers], often(to(most)))),
                           (("heap", COUNT), lambda numbers, most: bag([to(k) for k in numbers], [to(most)]))]:
            draw = random.Random(5)
            some = [shaped(sort, form([draw.randint(0, 9) for _ in range(draw.randint(0, 4))], draw.randint(0, 2)))
                    for _ in range(150)]
            self.assertGreater(len(set(some)), 60)
            self.assertEqual(untouched(limit_list, sort, some), ordered_limits(sort, [
                limit for limit in dict.fromkeys(some)
                if not any(other != limit and lies_within(sort, limit, other) for other in some)]))


class Within(unittest.TestCase):

    def yes(self, sort, one, two):
        self.assertIs(lies_within(sort, one, two), True)

    def no(self, sort, one, two):
        self.assertIs(lies_within(sort, one, two), False)

    def test_example(self):
        lane = ("lane", ("mark", ("a", "b")))
        self.assertEqual([lies_within(lane, row(once(A)), row(often(A))), is_inside(COUNT, to(3), 4),
                          everything(COUNT)], [True, False, [ALL]])
        self.assertEqual(shaped(lane, row(once(A), often(B, A), often(A))), row(often(A, B)))

    def test_words(self):
        self.yes(ABC, A, A)
        self.no(ABC, A, B)
        self.yes(COUNT, to(3), to(3))
        self.no(COUNT, to(4), to(3))
        self.yes(COUNT, to(99), ALL)
        self.no(COUNT, ALL, to(99))
        self.yes(PAIR, pair(to(1), to(2)), pair(to(1), ALL))
        self.no(PAIR, pair(to(1), ALL), pair(to(2), to(9)))
        self.no(EITHER, ("left", to(1)), ("right", A))
        self.yes(EITHER, ("left", to(1)), ("left", to(2)))

    def test_rows(self):
        self.yes(LANE, row(), row())
        self.yes(LANE, row(), row(once(A)))
        self.no(LANE, row(once(A)), row())
        self.yes(LANE, row(once(A), once(B)), row(once(C), once(A), once(C), once(B)))
        self.no(LANE, row(once(A), once(B)), row(once(B), once(A)))
        self.no(LANE, row(once(A), once(A)), row(once(A), once(B)))
        self.yes(LANE, row(once(A), once(A), once(B)), row(often(A), once(B)))
        self.no(LANE, row(often(A)), row(once(A), once(A)))
        self.yes(LANE, row(often(A), once(C), often(B)), row(once(C), often(A, B), once(C), often(A, B)))
        self.no(LANE, row(often(A), once(C), often(B)), row(often(A, B), once(C), once(B)))
        self.yes(("lane", COUNT), row(once(to(2)), once(to(5))), row(once(to(3)), once(ALL)))
        self.no(("lane", COUNT), row(once(to(2)), once(to(5))), row(once(to(5)), once(to(4))))

    def test_bags(self):
        self.yes(HEAP, bag([], []), bag([], []))
        self.yes(HEAP, bag([A, B], []), bag([A, A, B], []))
        self.no(HEAP, bag([A, A], []), bag([A, B], []))
        self.yes(HEAP, bag([A, A], []), bag([B], [A]))
        self.no(HEAP, bag([], [A]), bag([A] * 8, []))
        numbers = ("heap", COUNT)
        self.yes(numbers, bag([to(2), to(5)], []), bag([to(3), ALL], []))
        self.no(numbers, bag([to(4), to(5)], []), bag([to(3), ALL], []))
        self.yes(numbers, bag([to(4), to(5)], [to(1)]), bag([ALL], [to(4)]))
        self.no(numbers, bag([to(5), to(5)], []), bag([ALL], [to(4)]))
        pairs = ("heap", PAIR)
        self.yes(pairs, bag([pair(to(1), to(1)), pair(to(1), to(3))], []),
                 bag([pair(to(1), to(3)), pair(to(2), to(1))], []))

    def test_random_ones(self):
        for seed in range(120):
            draw = random.Random(seed)
            sort = some_sort(draw, 4, 2)
            datas = [some_limit(draw, sort, 2, 2) for _ in range(3)]
            limits = [untouched(shaped, sort, data) for data in datas]
            some = [some_value(draw, sort, 3, 3) for _ in range(40)]
            told = [[inside(sort, limit, v) for v in some] for limit in limits]
            for data, limit, row_told in zip(datas, limits, told):
                self.assertIs(is_limit(sort, limit), True)
                self.assertIs(is_limit(sort, data), data == limit)
                self.assertEqual([inside(sort, data, v) for v in some], row_told)
                self.assertEqual([is_inside(sort, limit, v) for v in some], row_told)
            for one, ones in zip(limits, told):
                for two, twos in zip(limits, told):
                    if lies_within(sort, one, two):
                        self.assertTrue(all(b or not a for a, b in zip(ones, twos)))
                        self.assertIs(lies_within(sort, two, one), one == two)
            found = untouched(limit_list, sort, limits)
            self.assertEqual(found, ordered_limits(sort, [
                limit for limit in dict.fromkeys(limits)
                if not any(other != limit and lies_within(sort, limit, other) for other in limits)]))


class Inside(unittest.TestCase):

    def test_is_inside(self):
        for sort, limit, yes, no in [
                (ABC, A, ["a"], ["b", "c"]), (COUNT, to(3), [0, 3], [4, 99]), (COUNT, ALL, [0, 99], []),
                (PAIR, pair(to(1), ALL), [(0, 0), (1, 99)], [(2, 0)]),
                (EITHER, ("left", to(1)), [("left", 0)], [("left", 2), ("right", "a")]),
                (LANE, row(), [()], [("a",)]),
                (LANE, row(once(A), often(B), once(A)), [(), ("a", "a"), ("b", "b"), ("a", "b", "a"), ("b", "a")],
                 [("c",), ("a", "a", "a"), ("b", "a", "b")]),
                (LANE, row(often(A, B), once(C)), [("a", "b", "a", "c"), ("c",)], [("c", "a"), ("c", "c")]),
                (HEAP, bag([A, A, B], []), [(), ("a", "b"), ("a", "a", "b")], [("a", "a", "a"), ("c",), ("b", "b")]),
                (HEAP, bag([A], [C]), [("c",) * 8, ("c", "c", "a")], [("c", "a", "a"), ("b",)]),
                (("heap", COUNT), bag([to(3), ALL], [to(1)]), [(0, 1, 1, 3, 99), (2, 3)], [(2, 2, 2), (4, 4)])]:
            for v in yes:
                self.assertIs(is_inside(sort, limit, v), True, (limit, v))
            for v in no:
                self.assertIs(is_inside(sort, limit, v), False, (limit, v))

    def test_all_is_more_than_to_99(self):
        for v in range(100):
            self.assertIs(is_inside(COUNT, to(99), v), True)
        self.assertEqual(limit_list(COUNT, [to(99), ALL]), [ALL])
        self.assertIs(lies_within(COUNT, ALL, to(99)), False)

    def test_limit_of(self):
        for sort, v, limit in [
                (ABC, "a", A), (COUNT, 0, to(0)), (COUNT, 99, to(99)), (PAIR, (1, 2), pair(to(1), to(2))),
                (EITHER, ("right", "b"), ("right", B)), (LANE, (), row()), (HEAP, (), bag([], [])),
                (LANE, ("a", "b", "a"), row(once(A), once(B), once(A))), (HEAP, ("c", "a", "a"), bag([C, A, A], [])),
                (("heap", ("lane", COUNT)), ((1,), (1, 0)), bag([row(once(to(1))), row(once(to(1)), once(to(0)))], []))]:
            self.assertEqual(untouched(limit_of, sort, v), limit)
            self.assertIs(is_limit(sort, limit), True)
        for seed in range(60):
            draw = random.Random(seed)
            sort = some_sort(draw, 4, 2)
            v, u = some_value(draw, sort, 3, 3), some_value(draw, sort, 3, 3)
            limit = limit_of(sort, v)
            self.assertIs(is_limit(sort, limit), True)
            self.assertIs(is_inside(sort, limit, v), True)
            self.assertIs(is_inside(sort, limit, u), lies_within(sort, limit_of(sort, u), limit))

    def test_everything(self):
        for sort, found in [
                (ABC, [C, A, B]), (COUNT, [ALL]), (PAIR, [pair(ALL, ALL)]), (("both", AB, COUNT), [pair(A, ALL), pair(B, ALL)]),
                (EITHER, [("left", ALL), ("right", A), ("right", B)]), (LANE, [row(often(C, A, B))]),
                (HEAP, [bag([], [C, A, B])]), (("lane", ("heap", COUNT)), [row(often(bag([], [ALL])))])]:
            self.assertEqual(untouched(everything, sort), found)
            self.assertEqual(limit_list(sort, found), found)
            for v in universe(sort, 1, 2):
                self.assertEqual(sum(is_inside(sort, limit, v) for limit in found), 1)
            self.assertEqual(len(found), len(least_values_of(sort)))


if __name__ == "__main__":
    unittest.main()
