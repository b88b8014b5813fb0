"""Point 6.5: prices, the cheapest runs, papers that nothing is cheaper."""

import random
import unittest

from helpers import kept, universe, untouched
from limit_words import A, ALL, often, row, to
from machine_words import (
    AB,
    COUNT,
    LANE,
    NONE,
    STILL,
    TALK,
    TILL,
    changed,
    cheapest_price,
    holds_some,
    least,
    lies,
    meets,
    outcome,
    position_back,
    right,
    some_machine,
)
from lossbars.bars import judge_bar
from lossbars.cheap import cheapest, dear, judge_dear, price_of
from lossbars.errors import BadPosition, TooMany
from lossbars.machines import Machine
from lossbars.rounds import decide
from lossbars.runs import judge_run

SHOP = Machine(COUNT, ["s"], [("one", "s", ("add", 1), "s"), ("three", "s", ("add", 3), "s")])
UP = Machine(COUNT, ["s"], [("up", "s", ("add", 1), "s")])
PAIRS = ("both", COUNT, COUNT)
WIDE = Machine(PAIRS, ["s"], [("go", "s", ("or", ("first", ("add", 1)), ("second", ("add", 1))), "s")])
NEAR, NO_PAIR = [("s", ("pair", to(1), to(3)))], [("s", ("pair", to(0), to(0)))]
LISTS = ((("s", 4),), (("s", 3),), (("s", 1),))


class Prices(unittest.TestCase):

    def test_examples(self):
        self.assertEqual([cheapest(SHOP, [1, 2], [("s", ("to", 0))], [("s", 4)])[0], dear(SHOP, [1, 2], [("s", 4)], 3)],
                         [3, ((("s", 4),), (("s", 3),), (("s", 1),))])

    def test_price_of(self):
        for path, price in [((), 0), ((("one", 1),), 1), ((("three", 3),), 3), ((("one", 1), ("three", 4), ("one", 5)), 5)]:
            self.assertEqual(untouched(price_of, SHOP, [1, 3], path), price)
        self.assertEqual(price_of(TALK, (3, 1, 2), (("hear", ()), ("ask", ()), ("hear", ()), ("spoil", ()))), 7)
        self.assertEqual(price_of(STILL, [], ()), 0)


class Cheapest(unittest.TestCase):

    def cheap(self, machine, prices, starts, bad, price):
        found = untouched(cheapest, machine, prices, starts, bad)
        self.assertEqual(found[0], price)
        self.assertIsNone(judge_run(machine, starts, bad, found[1]))
        self.assertEqual(price_of(machine, prices, found[1][2]), price)
        self.assertIsNone(judge_dear(machine, prices, starts, bad, price, dear(machine, prices, bad, price)))

    def test_runs(self):
        self.cheap(SHOP, [1, 1], [("s", to(0))], [("s", 4)], 2)
        self.cheap(SHOP, [1, 3], [("s", to(0))], [("s", 4)], 4)
        self.cheap(SHOP, (3, 1), [("s", to(0))], [("s", 4)], 2)
        self.cheap(SHOP, [2, 3], [("s", to(0)), ("s", to(3))], [("s", 9), ("s", 4)], 2)
        # What has the fewest rows need not cost the least.
        self.cheap(Machine(COUNT, ["s"], [("far", "s", ("add", 2), "s"), ("near", "s", ("add", 1), "s")]), [3, 1],
                   [("s", to(0))], [("s", 4)], 4)
        self.cheap(TALK, [3, 2, 1], [("q", row()), ("p", row(often(A)))], [("q", ("a",))], 3)

    def test_price_0_and_48(self):
        self.cheap(SHOP, [3, 3], [("s", to(4))], [("s", 4)], 0)
        self.assertEqual(cheapest(UP, [3], [("s", ALL)], [("s", 4)]), (0, (0, ("s", 4), ())))
        self.cheap(UP, [3], [("s", to(0))], [("s", 16)], 48)
        self.assertEqual(kept(TooMany, cheapest, UP, [3], [("s", to(0))], [("s", 17)]), {})

    def test_bars(self):
        self.assertEqual(untouched(cheapest, SHOP, [1, 2], [], [("s", 4)]), ("bar", (("s", 0),)))
        self.assertEqual(untouched(cheapest, STILL, [], [("p", to(2))], [("p", 3)]), ("bar", (("p", 3),)))
        self.assertEqual(cheapest(TILL, [1, 1], [("s", ALL)], []), ("bar", ()))

    def test_the_caps(self):
        self.assertEqual(cheapest(UP, [2], [("s", to(0))], [("s", 5)], rounds=5)[0], 10)
        self.assertEqual(kept(TooMany, cheapest, UP, [2], [("s", to(0))], [("s", 5)], rounds=4), {})
        # At price 4 there are three positions: a run that needs no list for decide needs it here.
        self.assertEqual(cheapest(WIDE, [2], NEAR, [("s", (3, 3))], positions=3)[0], 4)
        self.assertEqual(decide(WIDE, NEAR, [("s", (3, 3))], positions=2)[0], "run")
        self.assertEqual(kept(TooMany, cheapest, WIDE, [2], NEAR, [("s", (3, 3))], positions=2), {})
        self.assertEqual(kept(TooMany, cheapest, WIDE, [2], NO_PAIR, [("s", (3, 3))], positions=3), {})
        edge = [("s", (k, 2 - k)) for k in range(3)]
        self.assertEqual(kept(TooMany, cheapest, WIDE, [2], [("s", ("pair", ALL, ALL))], edge, positions=2), {})
        self.assertEqual(cheapest(WIDE, [2], [("s", ("pair", ALL, ALL))], edge, positions=3)[0], 0)

    def test_24_positions_and_25(self):
        for many in (24, 25):
            edge, starts = [("s", (k, many - 1 - k)) for k in range(many)], [("s", ("pair", ALL, to(0)))]
            self.assertEqual(decide(WIDE, starts, edge), ("run", (0, ("s", (many - 1, 0)), ())))
            if many == 24:
                self.assertEqual(cheapest(WIDE, [1], starts, edge), (0, (0, ("s", (23, 0)), ())))
            else:
                self.assertEqual(kept(TooMany, cheapest, WIDE, [1], starts, edge), {})

    def test_the_backs_count_too(self):
        machine = Machine(LANE, ["p", "q"], [("go", "q", ("need", ("a",)), "p"), ("on", "q", ("send", "b"), "q")])
        bad = [("p", ("b", "b")), ("q", ("b", "b", "b"))]
        starts = [("q", row(often(("is", "b"))))]
        self.assertEqual(cheapest(machine, [3, 1], starts, bad, positions=3)[0], 0)
        # The back by "go" has three values; it comes in only at the price of "go".
        near = [("q", row(("once", ("is", "b")), ("once", ("is", "b"))))]
        self.assertEqual(kept(TooMany, cheapest, machine, [3, 1], near, bad, positions=2), {})
        self.assertEqual(dear(machine, [3, 1], bad, 3, positions=2), ((bad[0], bad[1]), (bad[0], ("q", ("b", "b"))), (bad[0], ("q", ("b",)))))
        self.assertEqual(kept(TooMany, dear, machine, [3, 1], bad, 4, positions=2), {})
        self.assertEqual(len(dear(machine, [3, 1], bad, 4, positions=3)), 4)

    def test_back_may_raise_it_only_up_to_the_price(self):
        fall = Machine(COUNT, ["s", "t"], [("fall", "s", ("take", 20), "s"), ("go", "t", ("stay",), "s")])
        bad, starts = [("s", 80)], [("t", to(80))]
        self.assertEqual(kept(TooMany, cheapest, fall, [3, 1], starts, bad), {})
        self.assertEqual(dear(fall, [3, 1], bad, 3), ((("s", 80),),) + ((("s", 80), ("t", 80)),) * 2)
        self.assertEqual(kept(TooMany, dear, fall, [3, 1], bad, 4), {})

    def test_errors(self):
        for value in NONE + [("s", 1)]:
            self.assertEqual(kept(BadPosition, cheapest, SHOP, [1, 1], [("s", ALL), value, value], [value]), {"number": 1})
            self.assertEqual(kept(BadPosition, judge_dear, SHOP, [1, 1], [("s", ALL), value], [value], 3, None), {"number": 1})
        for value in NONE + [("s", ALL)]:
            some = [("s", 0), ("s", 0), value]
            self.assertEqual(kept(BadPosition, cheapest, SHOP, [1, 1], [("s", ALL)], some), {"number": 2})
            self.assertEqual(kept(BadPosition, dear, SHOP, [1, 1], some, 0), {"number": 2})
            self.assertEqual(kept(BadPosition, judge_dear, SHOP, [1, 1], [("s", ALL)], some, 3, None), {"number": 2})

    def test_random_ones(self):
        words = {}
        for seed in range(250):
            draw = random.Random(seed)
            machine, starts, bad = some_machine(draw)
            prices = [draw.randint(1, 3) for _ in range(len(machine))]
            found, decided = outcome(cheapest, machine, prices, starts, bad), outcome(decide, machine, starts, bad)
            if found is TooMany:
                continue
            self.assertEqual(found == decided, decided[0] == "bar")
            words[decided[0]] = words.get(decided[0], 0) + 1
            if decided[0] == "bar":
                self.assertIsNone(judge_bar(machine, starts, bad, found[1]))
                continue
            price, run = found
            self.assertIsNone(judge_run(machine, starts, bad, run))
            self.assertEqual(price_of(machine, prices, run[2]), price)
            lists = told_lists(machine, prices, bad, price + 1)
            self.assertEqual([any(meets(machine, start, each) for start in starts) for each in lists], [False] * price + [True])
            self.assertEqual(untouched(dear, machine, prices, bad, price), tuple(tuple(each) for each in lists[:-1]))
            self.assertIsNone(judge_dear(machine, prices, starts, bad, price, dear(machine, prices, bad, price)))
            more = dear(machine, prices, bad, price + 1)
            number = [meets(machine, start, more[-1]) for start in starts].index(True)
            self.assertEqual(judge_dear(machine, prices, starts, bad, price + 1, more), ("start", number))
        self.assertGreater(min(words.values()), 50)

    def test_by_plain_search(self):
        dearer = 0
        for sort, number, length in [(COUNT, 20, 0), (LANE, 0, 4), (("heap", AB), 0, 5), (("both", COUNT, AB), 15, 0)]:
            for seed in range(150):
                draw = random.Random(seed)
                machine, starts, bad = some_machine(draw, sort=sort, rules=6)
                prices = [draw.randint(1, 3) for _ in range(len(machine))]
                found = outcome(cheapest, machine, prices, starts, bad)
                if found is TooMany or found[0] in ("bar", 0):
                    continue
                first = [(state, v) for state in machine.states() for v in universe(sort, number, length)]
                first = [one for one in first if any(lies(machine, start, one) for start in starts)]
                self.assertEqual(cheapest_price(machine, prices, first, bad, found[0]), found[0])
                dearer += 1
        self.assertGreater(dearer, 30)


    def test_random_caps_by_the_words(self):
        words = {}
        for seed in range(500):
            draw = random.Random(seed)
            machine, starts, bad = some_machine(draw)
            prices = [draw.randint(1, 3) for _ in range(len(machine))]
            most = draw.choice([1, 2, 3, 24])
            if outcome(decide, machine, starts, bad, positions=most) is TooMany:
                self.assertIs(outcome(cheapest, machine, prices, starts, bad, positions=most), TooMany)
            elif decide(machine, starts, bad, positions=most)[0] == "run":
                found, told = (outcome(call, machine, prices, starts, bad, positions=most) for call in (cheapest, told_price))
                self.assertEqual(found if found is TooMany else found[0], told)
                words[told is TooMany] = words.get(told is TooMany, 0) + 1
            price = draw.randint(0, 5)
            found, told = (outcome(call, machine, prices, bad, price, positions=most) for call in (dear, told_dear_lists))
            self.assertEqual(found, told)
        self.assertGreater(min(words.values()), 3)


def told_price(machine, prices, starts, bad, *, positions):
    """The price that cheapest tells by the words of [6.5], where decide tells a run."""
    price = 0
    while not any(meets(machine, start, told_lists(machine, prices, bad, price + 1)[-1]) for start in starts):
        price += 1
    told_dear_lists(machine, prices, bad, price + 1, positions=positions)
    return price


def told_dear_lists(machine, prices, bad, price, *, positions):
    """What dear tells by the words of [6.5]."""
    lists = told_lists(machine, prices, bad, price)
    for p, listed in enumerate(lists):
        if len(listed) > positions:
            raise TooMany()
        for one in [each for each in listed if p == 0 or each not in lists[p - 1]]:
            for rule, own in zip(machine.rules(), prices):
                if p + own <= price - 1 and len(position_back(machine, rule, one)) > positions:
                    raise TooMany()
    return tuple(tuple(listed) for listed in lists)


def told_lists(machine, prices, bad, price):
    """C(0) to C(price - 1) by the words of [6.5]."""
    found = []
    for p in range(price):
        came = list(bad)
        for rule, own in zip(machine.rules(), prices):
            for one in found[p - own] if own <= p else []:
                came += position_back(machine, rule, one)
        found.append(least(machine, came))
    return found


class Dear(unittest.TestCase):

    def judge(self, starts, bad, price, value, found):
        self.assertEqual(untouched(judge_dear, SHOP, [1, 2], starts, bad, price, value), found, value)

    def test_lists(self):
        self.assertEqual(untouched(dear, SHOP, [1, 2], [("s", 4), ("s", 6)], 3), LISTS)
        self.assertEqual(untouched(dear, SHOP, [1, 2], [("s", 4)], 0), ())
        self.assertEqual(dear(SHOP, [1, 2], [], 2), ((), ()))
        self.assertEqual(dear(STILL, [], [("q", 1), ("p", 1)], 2), (((("p", 1), ("q", 1)),) * 2))
        self.assertEqual(dear(UP, [3], [("s", 99)], 48)[-1], (("s", 84),))
        self.assertEqual(len(dear(UP, [3], [("s", 99)], 48)), 48)

    def test_the_cap(self):
        edge = [("s", (k, 23 - k)) for k in range(24)]
        still = Machine(PAIRS, ["s"], [])
        self.assertEqual(dear(still, [], edge, 2), (tuple(edge),) * 2)
        more = [("s", (k, 24 - k)) for k in range(25)]
        self.assertEqual(kept(TooMany, dear, still, [], more, 1), {})
        # Of no lists none is too long.
        self.assertEqual(dear(still, [], more, 0), ())
        self.assertEqual([len(each) for each in dear(WIDE, [2], [("s", (3, 3))], 5, positions=3)], [1, 1, 2, 2, 3])
        self.assertEqual(kept(TooMany, dear, WIDE, [2], [("s", (3, 3))], 5, positions=2), {})
        self.assertEqual(len(dear(WIDE, [2], [("s", (3, 3))], 4, positions=2)), 4)

    def test_right_ones(self):
        self.judge([("s", to(0))], [("s", 4)], 3, LISTS, None)
        self.judge([("s", ALL)], [("s", 4)], 0, (), None)
        self.judge([], [("s", 4)], 4, LISTS + ((("s", 0),),), None)
        # Not the least ones.
        self.judge([("s", to(0))], [("s", 4)], 2, ((("s", 2),), (("s", 1),)), None)
        self.judge([], [], 2, ((), ()), None)

    def test_forms(self):
        for value in [None, True, 3, [], list(LISTS), LISTS[:2], LISTS + LISTS[2:], (LISTS[0], LISTS[1], None), (LISTS[0], [("s", 3)], LISTS[2]),
                      (LISTS[0], (("s", 3), ("s", 3)), LISTS[2]), (LISTS[0], (("s", 3), ("s", 4)), LISTS[2]), (LISTS[0], (5,), LISTS[2]),
                      (LISTS[0], (("s", True),), LISTS[2]), (LISTS[0], (["s", 3],), LISTS[2]), LISTS[0]]:
            self.judge([("s", ALL)], [("s", 0)], 3, value, ("form",))
        self.judge([], [], 0, None, ("form",))
        self.judge([], [], 0, ((),), ("form",))

    def test_faults(self):
        self.judge([("s", to(0))], [("s", 6), ("s", 4), ("s", 3)], 3, LISTS, ("bad", 0, 2))
        self.judge([("s", to(0))], [("s", 4)], 3, (LISTS[0], (("s", 5),), LISTS[2]), ("bad", 1, 0))
        self.judge([("s", to(0))], [("s", 4)], 3, (LISTS[0], (("s", 4),), LISTS[2]), ("back", 1, "one", 0))
        self.judge([("s", to(0))], [("s", 4)], 3, LISTS[:2] + ((("s", 2),),), ("back", 2, "three", 0))
        self.judge([("s", to(0))], [("s", 4)], 3, ((("s", 4),), (("s", 3),), (("s", 3),)), ("back", 2, "one", 0))
        self.judge([("s", to(0)), ("s", to(1))], [("s", 4)], 3, LISTS, ("start", 1))
        # List by list: what is wrong with the first one goes ahead, the starts last.
        self.judge([("s", ALL)], [("s", 4)], 3, ((("s", 4),), (("s", 4),), (("s", 9),)), ("back", 1, "one", 0))
        self.judge([("s", ALL)], [("s", 4)], 3, LISTS, ("start", 0))
        pairs = ((("s", (0, 5)), ("s", (5, 0))), (("s", (0, 5)), ("s", (4, 0))))
        self.assertEqual(judge_dear(WIDE, [1], [], [], 2, pairs), ("back", 1, "go", 0))
        self.assertEqual(judge_dear(WIDE, [2], [], [], 2, pairs), None)
        first = Machine(PAIRS, ["s"], [("go", "s", ("first", ("add", 1)), "s"), ("up", "s", ("second", ("add", 1)), "s")])
        self.assertEqual(judge_dear(first, [1, 1], [], [], 2, (pairs[0], pairs[0])), ("back", 1, "go", 1))
        self.assertEqual(judge_dear(first, [2, 1], [], [], 2, (pairs[0], pairs[0])), ("back", 1, "up", 0))

    def test_too_many(self):
        fall = Machine(COUNT, ["s", "t"], [("go", "t", ("add", 1), "t"), ("fall", "s", ("take", 20), "s")])
        lists = ((("s", 80), ("t", 5)),)
        self.assertIsNone(judge_dear(fall, [1, 1], [], [], 1, lists))
        self.assertEqual(judge_dear(fall, [1, 1], [], [], 2, lists * 2), ("back", 1, "go", 1))
        self.assertEqual(kept(TooMany, judge_dear, fall, [2, 1], [], [], 2, lists * 2), {})
        self.assertEqual(judge_dear(fall, [2, 1], [], [("t", 4)], 2, lists * 2), ("bad", 0, 0))
        self.assertEqual(kept(TooMany, judge_dear, fall, [2, 1], [("s", ALL)], [], 2, lists * 2), {})
        self.assertEqual(judge_dear(fall, [2, 2], [("s", ALL)], [], 2, lists * 2), ("start", 0))

    def test_changed_papers(self):
        faults = {}
        for seed in range(300):
            draw = random.Random(seed)
            machine, starts, bad = some_machine(draw)
            prices, price = [draw.randint(1, 2) for _ in range(len(machine))], draw.randint(0, 4)
            paper = outcome(dear, machine, prices, bad, price)
            for _ in range(5 if paper is not TooMany else 0):
                value = changed(draw, paper)
                if isinstance(value, tuple) and len(value) != price and draw.random() < 0.9:
                    value = (value + paper)[:price]
                fault = outcome(judge_dear, machine, prices, starts, bad, price, value)
                self.assertEqual(fault, outcome(told_dear, machine, prices, starts, bad, price, value), value)
                word = fault if fault is TooMany or fault is None else fault[0]
                faults[word] = faults.get(word, 0) + 1
        self.assertLessEqual({"form", "bad", "back", "start", None}, set(faults))


def told_dear(machine, prices, starts, bad, price, value):
    """The first fault of a paper by the words of [6.5]."""
    if not isinstance(value, tuple) or len(value) != price:
        return ("form",)
    for each in value:
        if not isinstance(each, tuple) or not all(right(machine, one) for one in each) or list(each) != least(machine, each):
            return ("form",)
    for p in range(price):
        for k, one in enumerate(bad):
            if not holds_some(machine, one, value[p]):
                return ("bad", p, k)
        for rule, own in zip(machine.rules(), prices):
            for k, one in enumerate(value[p - own] if own <= p else ()):
                if not all(holds_some(machine, came, value[p]) for came in position_back(machine, rule, one)):
                    return ("back", p, rule[0], k)
    for k, start in enumerate(starts):
        if price and meets(machine, start, value[-1]):
            return ("start", k)
    return None


if __name__ == "__main__":
    unittest.main()
