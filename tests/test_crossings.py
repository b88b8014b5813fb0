"""Rows that have very many limits in common (3.5, 3.6): what is told to be too long ahead of its making is so."""

import random
import unittest

from helpers import kept, some_limit, some_value
from limit_words import AB, COUNT, LANE, PAIR
from lossbars import crossings
from lossbars.crossings import Crossing
from lossbars.errors import TooMany
from lossbars.limits import everything, limit_list, shaped
from lossbars.machines import Machine
from lossbars.meets import met_limits
from lossbars.outsides import beyond, outside
from lossbars.shields import shield_of
from machine_words import outcome

DEEP = ("lane", ("lane", PAIR))
LANES = [LANE, DEEP, ("lane", PAIR), ("lane", ("both", AB, AB)), ("lane", ("heap", AB)), ("lane", ("lane", AB)), ("lane", ("either", AB, COUNT))]
LONG = [(((9, 9), (1, 3)), ((12, 19), (3, 14)), ((10, 16), (16, 3)), ((12, 1), (13, 7))),
        (((14, 4), (5, 16)), ((19, 14), (17, 7)), ((7, 4), (14, 13)), ((14, 16), (12, 16))),
        (((12, 5), (18, 4)), ((10, 9), (11, 1)), ((3, 17), (9, 12)), ((15, 6), (8, 5)))]


def told_outside(sort, some, cap):
    """What outside tells by the words of [3.6]; TooMany where the cap is passed."""
    found = everything(sort)
    for v in some:
        each = [limit_list(sort, [limit for other in beyond(sort, v) for limit in met_limits(sort, one, other)]) for one in found]
        found = limit_list(sort, [limit for brought in each for limit in brought])
        if max([len(found)] + [len(brought) for brought in each]) > cap:
            raise TooMany()
    return found


class Outside(unittest.TestCase):

    def setUp(self):
        self.far = crossings.FAR

    def tearDown(self):
        crossings.FAR = self.far

    def test_long_lists_are_told_soon(self):
        self.assertEqual(len(outside(DEEP, LONG[:2])), len(told_outside(DEEP, LONG[:2], 60)))
        for cap in (60, 38, 5):
            self.assertEqual(kept(TooMany, outside, DEEP, LONG, limits=cap), {})
        machine = Machine(DEEP, ["p", "q"], [])
        self.assertEqual(kept(TooMany, shield_of, machine, [("p", ()), ("q", LONG[0]), ("q", LONG[1]), ("q", LONG[2])]), {})

    def test_small_caps_by_the_words(self):
        seen = {True: 0, False: 0}
        for seed in range(800):
            draw = random.Random(seed)
            crossings.FAR = draw.choice([1, 2, self.far])
            sort, cap = draw.choice(LANES), draw.choice([1, 2, 3, 5, 8])
            some = [some_value(draw, sort, 9, 3) for _ in range(2)] + [some_value(draw, sort, 3, 2)][:draw.randint(0, 1)]
            told = outcome(told_outside, sort, some, cap)
            self.assertEqual(outcome(outside, sort, some, limits=cap), told)
            seen[told is TooMany] += 1
        self.assertGreater(min(seen.values()), 50)


class Watched(Crossing):
    """Each list of codes in common that was made, with the numbers that it was said to be surely more than."""

    lists = []

    def codes(self, most=None):
        found = Crossing.codes(self)
        Watched.lists.append((len(found), [many for many in range(1, len(found) + 3) if self._surely_more(many)]))
        return found


class SurelyMore(unittest.TestCase):

    def test_it_is_more(self):
        from lossbars import meets
        meets.Crossing, Watched.lists = Watched, []
        try:
            for seed in range(250):
                draw = random.Random(seed)
                sort = draw.choice(LANES)
                rows = [shaped(sort, some_limit(draw, sort, 4, 4)) for _ in range(2)]
                for v in (some_value(draw, sort, 9, 4) for _ in range(2)):
                    rows += beyond(sort, v)
                for one, two in zip(rows, rows[1:]):
                    met_limits(sort, one, two)
        finally:
            meets.Crossing = Crossing
        long = [(many, sure) for many, sure in Watched.lists if many > 3]
        for many, sure in Watched.lists:
            self.assertTrue(all(number < many for number in sure), (many, sure))
        # Where lists are long it is nearly always found.
        self.assertGreater(len(long), 30)
        self.assertGreater(sum(many - 1 in sure for many, sure in long), len(long) // 2)


if __name__ == "__main__":
    unittest.main()
