"""Point 4.4: what is forth of a limit by an act."""

import random
import unittest

from act_words import some_act, told_forth, told_results
from helpers import ODD, inside, kept, path_of, some_limit, some_sort, some_value, universe, untouched
from limit_words import A, AB, ABC, ALL, B, C, COUNT, LANE, bag, often, once, pair, row, to
from lossbars.backward import back
from lossbars.errors import BadAct, BadLimit, BadSort, TooMany
from lossbars.forward import forth, forth_list
from lossbars.limits import is_limit, limit_list, shaped

PAIR = ("both", COUNT, AB)
EITHER = ("either", COUNT, ("lane", AB))
HEAP, BAGS = ("heap", COUNT), ("heap", ABC)
NUMBERS = ("lane", COUNT)
STAY = ("stay",)
ADD, TAKE = ("add", 1), ("take", 1)
TURN = ("turn", "a", "b")


def then(one, two):
    return ("then", one, two)


def either_way(one, two):
    return ("or", one, two)


def onces(many):
    """A row of so many pieces, none of which swallows another one."""
    return row(*[once(A if k % 2 else B) for k in range(many)])


class Forth(unittest.TestCase):

    def forth(self, sort, act, limit, found):
        self.assertEqual(untouched(forth, sort, act, limit), found, (sort, act, limit))
        self.assertEqual(limit_list(sort, found), found)
        self.assertEqual(untouched(forth_list, sort, act, [limit]), found)

    def many(self, sort, act, limit):
        self.assertTrue(is_limit(sort, limit))
        self.assertEqual(kept(TooMany, forth, sort, act, limit), {}, (sort, act, limit))
        self.assertEqual(kept(TooMany, forth_list, sort, act, [limit]), {})

    def test_examples(self):
        lane, told = ("lane", AB), ("row", (("once", ("is", "a")), ("often", (("is", "b"),))))
        self.assertEqual([forth(lane, ("receive", "a"), told), forth(lane, ("receive", "b"), told), forth(lane, ("send", "b"), told)],
                         [[("row", (("often", (("is", "b"),)),))], [("row", (("often", (("is", "b"),)),))],
                          [("row", (("once", ("is", "a")), ("often", (("is", "b"),))))]])
        self.assertEqual([forth(HEAP, ("put", 2), ("bag", (), (("to", 1),))),
                          forth_list(COUNT, ("take", 2), [("to", 1), ("to", 5), ("all",)])],
                         [[("bag", (("to", 2),), (("to", 1),))], [("all",)]])

    def test_each_word(self):
        for sort, act, limit, found in [
                (AB, STAY, A, [A]), (COUNT, ("need", 3), to(3), [to(3)]), (COUNT, ("need", 3), to(2), []),
                (COUNT, ("need", 99), ALL, [ALL]), (COUNT, ("set", 7), to(2), [to(7)]), (AB, ("set", "b"), A, [B]),
                (LANE, ("set", ("a", "b")), row(), [row(once(A), once(B))]), (BAGS, ("set", ("a", "b")), bag([], [A]), [bag([A, B], [])]),
                (AB, TURN, A, [B]), (AB, TURN, B, []), (COUNT, ("add", 3), to(5), [to(8)]), (COUNT, ("add", 3), ALL, [ALL]),
                (COUNT, ("take", 3), to(5), [to(2)]), (COUNT, ("take", 3), to(3), [to(0)]), (COUNT, ("take", 3), to(2), []),
                (COUNT, ("take", 3), ALL, [ALL]), (PAIR, ("first", ADD), pair(to(2), A), [pair(to(3), A)]),
                (PAIR, ("second", TURN), pair(to(2), A), [pair(to(2), B)]), (PAIR, ("second", TURN), pair(to(2), B), []),
                (EITHER, ("left", ADD), ("left", to(1)), [("left", to(2))]), (EITHER, ("left", ADD), ("right", row()), []),
                (EITHER, ("right", ("send", "a")), ("right", row()), [("right", row(once(A)))]),
                (EITHER, ("right", ("send", "a")), ("left", ALL), [])]:
            self.forth(sort, act, limit, found)

    def test_lanes(self):
        for act, limit, found in [
                (("send", "a"), row(), [row(once(A))]), (("send", "a"), row(often(A)), [row(often(A))]),
                (("send", "a"), row(often(A), once(B)), [row(often(A), once(B), once(A))]),
                (("receive", "a"), row(), []), (("receive", "a"), row(once(B)), []),
                (("receive", "a"), row(once(B), once(A), once(C), once(A)), [row(once(C), once(A))]),
                (("receive", "a"), row(once(B), often(C, A), once(B), once(A)), [row(often(C, A), once(B), once(A))]),
                (("receive", "a"), row(often(B), often(A), once(B)), [row(often(A), once(B))]),
                (("any", TURN), row(), []), (("any", TURN), row(once(B)), []),
                (("any", TURN), row(once(A), once(A)), [row(once(A), once(B)), row(once(B), once(A))]),
                (("any", TURN), row(often(A)), [row(often(A), once(B), often(A))]),
                (("any", TURN), row(often(A, B)), [row(often(A, B))]),
                (("any", TURN), row(often(A), often(B)), [row(often(A), once(B), often(A), often(B))]),
                (("any", TURN), row(once(C), often(A), once(C)), [row(once(C), often(A), once(B), often(A), once(C))])]:
            self.forth(LANE, act, limit, found)
        self.forth(NUMBERS, ("receive", 3), row(once(to(2)), once(to(4)), once(ALL)), [row(once(ALL))])
        self.forth(NUMBERS, ("any", ADD), row(once(to(2)), often(to(1))),
                   [row(once(to(2)), often(to(1)), once(to(2)), often(to(1))), row(once(to(3)), often(to(1)))])
        self.forth(NUMBERS, ("any", TAKE), row(often(to(2))), [row(often(to(2)))])

    def test_heaps(self):
        for sort, act, limit, found in [
                (BAGS, ("put", "a"), bag([], []), [bag([A], [])]), (BAGS, ("put", "a"), bag([], [A]), [bag([], [A])]),
                (BAGS, ("put", "a"), bag([C, B], []), [bag([C, A, B], [])]), (BAGS, ("take", "a"), bag([], []), []),
                (BAGS, ("take", "a"), bag([A, B], [C]), [bag([B], [C])]), (BAGS, ("take", "a"), bag([B], [A]), [bag([B], [A])]),
                (HEAP, ("take", 3), bag([to(1), to(3), to(5)], []), [bag([to(1), to(5)], [])]),
                (HEAP, ("take", 3), bag([to(5)], [to(2)]), [bag([], [to(2)])]), (HEAP, ("take", 3), bag([], [to(3)]), [bag([], [to(3)])]),
                (BAGS, ("any", TURN), bag([A, A], [C]), [bag([A, B], [C])]), (BAGS, ("any", TURN), bag([], [A]), [bag([B], [A])]),
                (BAGS, ("any", TURN), bag([], [A, B]), [bag([], [A, B])]), (BAGS, ("any", TURN), bag([B], [C]), []),
                (HEAP, ("any", ADD), bag([to(3)], [to(1)]), [bag([to(2), to(3)], [to(1)]), bag([to(4)], [to(1)])]),
                (HEAP, ("any", ADD), bag([], [ALL]), [bag([], [ALL])]), (HEAP, ("any", TAKE), bag([to(1)], []), [bag([to(0)], [])])]:
            self.forth(sort, act, limit, found)

    def test_put_together(self):
        for sort, act, limit, found in [
                (COUNT, then(ADD, ("take", 3)), to(2), [to(0)]), (COUNT, then(ADD, ("take", 4)), to(2), []),
                (COUNT, either_way(ADD, TAKE), to(5), [to(6)]), (AB, either_way(TURN, STAY), A, [A, B]),
                (LANE, then(("send", "a"), ("receive", "a")), row(once(B)), [row()]),
                (BAGS, then(("any", TURN), ("any", ("turn", "a", "c"))), bag([A, A], []), [bag([C, B], [])]),
                (COUNT, then(("need", 5), ("set", 50)), to(4), []), (COUNT, either_way(("need", 5), ("set", 3)), to(4), [to(3)]),
                (("lane", PAIR), ("any", ("second", either_way(TURN, STAY))), row(once(pair(ALL, A))),
                 [row(once(pair(ALL, A))), row(once(pair(ALL, B)))])]:
            self.forth(sort, act, limit, found)

    def test_numbers_to_99(self):
        self.forth(COUNT, ("add", 20), to(79), [to(99)])
        self.many(COUNT, ("add", 20), to(80))
        self.many(HEAP, ("any", ADD), bag([to(99)], []))
        self.many(HEAP, ("any", ADD), bag([], [to(99)]))
        self.many(PAIR, ("first", ADD), pair(to(99), A))
        self.forth(PAIR, ("second", TURN), pair(to(99), A), [pair(to(99), B)])
        self.forth(HEAP, ("any", ADD), bag([to(98), ALL], []), [bag([to(99), ALL], [])])

    def test_rows_of_17_pieces_and_18(self):
        self.forth(LANE, ("send", "a"), onces(16), [row(*(onces(16)[1] + (once(A),)))])
        self.many(LANE, ("send", "a"), onces(17))
        ended = row(*(onces(16)[1] + (often(C),)))
        self.forth(LANE, ("send", "c"), ended, [ended])
        self.many(LANE, ("send", "a"), ended)
        begun = row(*((often(C),) + onces(14)[1]))
        more = row(*((often(C),) + onces(16)[1]))
        self.forth(LANE, ("any", ("turn", "c", "a")), begun, [row(*((often(C), once(A), often(C)) + onces(14)[1]))])
        self.many(LANE, ("any", ("turn", "c", "a")), more)
        self.assertEqual(len(forth(LANE, ("any", TURN), onces(17))), 8)

    def test_bags_of_8_onces_and_9(self):
        self.forth(BAGS, ("put", "a"), bag([A] * 7, []), [bag([A] * 8, [])])
        self.many(BAGS, ("put", "a"), bag([A] * 8, []))
        self.forth(BAGS, ("put", "a"), bag([B] * 8, [A]), [bag([B] * 8, [A])])
        self.forth(BAGS, ("any", TURN), bag([A] * 8, []), [bag([A] * 7 + [B], [])])
        self.forth(BAGS, ("any", TURN), bag([B] * 7, [A]), [bag([B] * 8, [A])])
        self.many(BAGS, ("any", TURN), bag([B] * 8, [A]))

    def test_what_is_asked_within(self):
        self.many(COUNT, then(("add", 20), ("take", 20)), to(80))
        self.many(COUNT, either_way(("add", 20), ("set", 0)), to(80))
        self.many(COUNT, then(("add", 20), ("set", 0)), to(80))
        self.many(LANE, then(("send", "a"), ("receive", "a")), onces(17))
        self.many(LANE, then(("send", "a"), ("need", ("c",))), onces(17))
        self.many(("heap", LANE), ("any", then(("send", "a"), ("set", ()))), bag([onces(17)], []))
        self.many(("heap", LANE), ("any", then(("send", "a"), ("set", ()))), bag([], [onces(17)]))
        self.many(("either", LANE, AB), ("left", then(("send", "a"), ("set", ()))), ("left", onces(17)))
        self.forth(COUNT, then(("take", 20), ("add", 20)), to(99), [to(99)])
        self.forth(COUNT, then(("need", 99), ("add", 20)), to(98), [])

    def test_however_many_limits(self):
        wide = ("both", ("heap", COUNT), ("heap", COUNT))
        told = bag([to(9 * k) for k in range(8)], [])
        act = then(("first", ("any", ADD)), ("second", ("any", ADD)))
        self.assertEqual(len(forth(wide, act, pair(told, told))), 64)
        self.assertEqual(len(forth_list(wide, act, [pair(told, told), pair(bag([], []), told)])), 64)

    def test_forth_list(self):
        for sort, act, limits, found in [
                (COUNT, ADD, [], []), (COUNT, ADD, [to(3), to(5), to(5)], [to(6)]), (AB, TURN, (B, A), [B]), (AB, TURN, [B], []),
                (AB, STAY, [B, A], [A, B]), (LANE, ("receive", "a"), [row(once(A)), row(once(A), once(B))], [row(once(B))])]:
            self.assertEqual(untouched(forth_list, sort, act, limits), found)
        self.assertEqual(kept(TooMany, forth_list, COUNT, ADD, [to(5), to(99)]), {})
        self.assertEqual(kept(TooMany, forth_list, COUNT, ADD, [ALL, to(99)]), {})

    def test_new_lists_each_time(self):
        for call, told in [(forth, to(3)), (forth_list, [to(3)])]:
            found = call(COUNT, STAY, told)
            found.append(5)
            self.assertEqual(call(COUNT, STAY, told), [to(3)])


class Wrong(unittest.TestCase):

    def test_errors_in_order(self):
        for call, more in [(forth, lambda limit: limit), (forth_list, lambda limit: [limit])]:
            self.assertEqual(path_of(BadSort, call, ("lane", 7), 5, more(5)), (1,))
            self.assertEqual(path_of(BadAct, call, LANE, ("any", ("turn", "a", "x")), more(5)), (1, 2))
        self.assertEqual(path_of(BadLimit, forth, LANE, STAY, row(once(A), once(5))), (1, 1, 1))
        self.assertEqual(path_of(BadLimit, forth_list, LANE, STAY, [row(), row(once(A), once(5)), 7]), (1, 1, 1, 1))
        # Some form of a limit that is not the one form.
        self.assertEqual(path_of(BadLimit, forth, LANE, STAY, row(often(A, A))), ())
        self.assertEqual(path_of(BadLimit, forth_list, LANE, STAY, [row(), row(often(B, A))]), (1,))
        self.assertEqual(path_of(BadLimit, forth, BAGS, STAY, bag([A], [A])), ())

    def test_wrong_limits_go_ahead_of_too_many(self):
        self.assertEqual(path_of(BadLimit, forth_list, COUNT, ("add", 20), [to(99), to(100)]), (1,))
        self.assertEqual(path_of(BadLimit, forth, COUNT, ("add", 20), to(100)), ())

    def test_odd_things(self):
        for value in ODD:
            self.assertEqual(path_of(BadLimit, forth, COUNT, STAY, value), ())
            self.assertEqual(path_of(BadLimit, forth_list, COUNT, STAY, [ALL, value]), (1,))
            self.assertIsInstance(path_of(BadAct, forth, COUNT, value, ALL), tuple)


class ByTheWords(unittest.TestCase):

    def test_random_acts(self):
        for seed in range(400):
            draw = random.Random(seed)
            sort = some_sort(draw, draw.choice([2, 3, 4]), 3)
            act, limit = some_act(draw, sort, 3), shaped(sort, some_limit(draw, sort, 3, 3))
            found = untouched(forth, sort, act, limit)
            self.assertEqual(found, told_forth(sort, act, limit), (sort, act, limit))
            self.assertTrue(all(is_limit(sort, each) for each in found))
            limits = [shaped(sort, some_limit(draw, sort, 3, 3)), limit]
            self.assertEqual(forth_list(sort, act, limits), limit_list(sort, forth(sort, act, limits[0]) + found))

    def test_a_value_lies_in_it_exactly_if_one_back_of_it_lies_in_the_limit(self):
        asked = {}
        for sort, number, length in [(COUNT, 9, 0), (ABC, 0, 0), (PAIR, 5, 0), (EITHER, 2, 3), (LANE, 0, 3), (HEAP, 2, 3),
                                     (("lane", PAIR), 1, 2), (BAGS, 0, 4), (("heap", LANE), 0, 2), (("lane", HEAP), 1, 2)]:
            values = universe(sort, number, length)
            for seed in range(60):
                draw = random.Random(seed)
                act, limit = some_act(draw, sort, 2), shaped(sort, some_limit(draw, sort, 4, 3))
                found = forth(sort, act, limit)
                for v in draw.sample(values, min(len(values), 40)):
                    one = any(inside(sort, limit, u) for u in back(sort, act, v))
                    self.assertIs(any(inside(sort, each, v) for each in found), one, (sort, act, limit, v))
                    asked[one] = asked.get(one, 0) + 1
        self.assertGreater(min(asked[True], asked[False]), 1000)

    def test_results_of_what_lies_inside_lie_in_it(self):
        for seed in range(200):
            draw = random.Random(seed)
            sort = some_sort(draw, 3, 2)
            act, v = some_act(draw, sort, 2), some_value(draw, sort, 3, 2)
            limit = shaped(sort, some_limit(draw, sort, 4, 3))
            if inside(sort, limit, v):
                found = forth(sort, act, limit)
                for came in told_results(sort, act, v):
                    self.assertTrue(any(inside(sort, each, came) for each in found))


if __name__ == "__main__":
    unittest.main()
