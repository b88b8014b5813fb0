"""Points 10.3, 10.5 and 10.7: elders, attempts."""

import random
import unittest

from helpers import kept, untouched
from house_words import NO_NUMBERS, STATES, UP, small_house, some_deed, told
from limit_words import to
from lossbars.branches import attempt, come_of, elders, last_common, line_to, tried
from lossbars.errors import (
    BadDeed,
    BadPosition,
    Clash,
    NoMoment,
    NothingDone,
    TooMany,
    UnknownName,
)
from lossbars.house import House
from machine_words import COUNT

ONE, TWO, THREE = ("bad", ("p", 1)), ("bad", ("p", 2)), ("bad", ("p", 3))


def woven():
    """A house with two branches, merged into one another: 3 is made of 1 and 2, 5 of 3 and 4."""
    house = small_house()
    house.branch("side")
    house.do(ONE)
    house.go("side")
    house.do(TWO)
    house.go("main")
    house.merge("side")
    house.go("side")
    house.do(UP)
    house.go("main")
    house.merge("side")
    return house


class Elders(unittest.TestCase):

    def test_words(self):
        house = woven()
        self.assertEqual(house.log(), [(0, ONE), (0, TWO), (1, ("merge", 2)), (2, UP), (3, ("merge", 4))])
        self.assertEqual([elders(house, k) for k in range(6)], [[0], [0, 1], [0, 2], [0, 1, 2, 3], [0, 2, 4], [0, 1, 2, 3, 4, 5]])
        self.assertEqual([come_of(house, k) for k in range(6)], [[0, 1, 2, 3, 4, 5], [1, 3, 5], [2, 3, 4, 5], [3, 5], [4, 5], [5]])
        self.assertEqual([[last_common(house, k, j) for j in range(6)] for k in range(6)],
                         [[0] * 6, [0, 1, 0, 1, 0, 1], [0, 0, 2, 2, 2, 2], [0, 1, 2, 3, 2, 3], [0, 0, 2, 2, 4, 4], [0, 1, 2, 3, 4, 5]])
        self.assertEqual([line_to(house, k) for k in range(6)],
                         [[], [ONE], [TWO], [ONE, ("merge", 2)], [TWO, UP], [ONE, ("merge", 2), ("merge", 4)]])

    def test_what_no_trail_shows(self):
        house = small_house()
        house.do(ONE)
        house.undo()
        house.do(TWO)
        self.assertEqual((elders(house, 1), come_of(house, 0), line_to(house, 1), last_common(house, 1, 2)), ([0, 1], [0, 1, 2], [ONE], 0))

    def test_lists_are_new_ones(self):
        house = woven()
        before = told(house)
        for call in (elders, come_of, line_to):
            found = call(house, 5)
            found.append(7)
            self.assertNotEqual(call(house, 5), found)
        self.assertEqual(told(house), before)

    def test_wrong_numbers(self):
        house = woven()
        for number in NO_NUMBERS + [6, 2.0]:
            for call in (elders, come_of, line_to):
                self.assertEqual(kept(NoMoment, call, house, number), {"number": number})
            self.assertEqual(kept(NoMoment, last_common, house, number, 99), {"number": number})
            self.assertEqual(kept(NoMoment, last_common, house, 5, number), {"number": number})


class Odd(Exception):
    """An error that no package knows."""


class Attempts(unittest.TestCase):

    def fails(self, house, error, action):
        """The attempt ends by the error, and the house tells all as before."""
        before, twin = told(house), house.twin()
        with self.assertRaises(error):
            attempt(house, action)
        self.assertEqual(told(house), before)
        self.assertEqual(house, twin)

    def test_what_is_returned(self):
        house, thing = small_house(), object()
        self.assertIs(attempt(house, lambda one: thing), thing)
        self.assertIsNone(attempt(house, lambda one: None))
        self.assertIs(attempt(house, lambda one: one), house)
        self.assertEqual(attempt(house, lambda one: [one.do(UP), one.branch("side"), one.go("side"), one.do(ONE)]), [1, None, 1, 2])
        self.assertEqual((house.here(), house.log(), house.trail("side")), ("side", [(0, UP), (1, ONE)], [1, 2]))
        # The value None does not make it an error.
        self.assertIsNone(attempt(house, lambda one: one.branch("more")))
        self.assertEqual(house.branches(), ["main", "side", "more"])

    def test_any_error(self):
        house = woven()
        errors = [Odd, ValueError, KeyError, LookupError, TypeError, AttributeError, RuntimeError, RecursionError, MemoryError, StopIteration,
                  AssertionError, OSError, ZeroDivisionError, KeyboardInterrupt, SystemExit, GeneratorExit, BaseException, Warning, TooMany]
        for error in errors:
            def action(one):
                one.do(("drop", "up"))
                one.branch("more")
                one.go("more")
                one.do(THREE)
                one.go("main")
                one.undo()
                raise error()
            self.fails(house, error, action)

    def test_the_error_goes_on(self):
        house, raised = small_house(), Odd("mine")
        def action(one):
            one.do(UP)
            raise raised
        try:
            attempt(house, action)
        except Odd as error:
            self.assertIs(error, raised)
        else:
            self.fail("no error")

    def test_errors_of_the_house(self):
        house = woven()
        for error, last in [(BadDeed, lambda one: one.do(5)), (NothingDone, lambda one: one.redo()), (UnknownName, lambda one: one.go("no")),
                            (NoMoment, lambda one: one.moment(99)), (BadPosition, lambda one: one.do(("bad", 5))),
                            (TooMany, lambda one: [one.do(ONE) for _ in range(200)]),
                            (RecursionError, lambda one: self.endless(one)), (TypeError, lambda one: one()),
                            (Clash, lambda one: [one.do(("drop", "up")), one.go("side"), one.do(("rule", "up", "q", ("stay",), "q")), one.merge("main")])]:
            def action(one):
                one.do(ONE)
                return last(one)
            self.fails(house, error, action)

    def endless(self, house):
        return self.endless(house)

    def test_numbers_are_given_again(self):
        house = small_house()
        self.assertEqual(house.do(ONE), 1)
        def action(one):
            many = len(one)
            self.assertEqual([one.do(TWO), one.do(THREE)], [many, many + 1])
            raise Odd()
        for _ in range(3):
            self.fails(house, Odd, action)
        self.assertEqual(house.do(THREE), 2)
        self.assertEqual(house.now()[2], [("p", 1), ("p", 3)])
        # What redo could reach, it can again.
        house.undo()
        self.fails(house, Odd, action)
        self.assertEqual(house.redo(), 2)

    def test_attempts_within_one_another(self):
        house = small_house()
        def inner(one):
            one.do(TWO)
            one.branch("inner")
            one.go("inner")
            raise Odd()
        def outer(one):
            one.do(ONE)
            self.fails(one, Odd, inner)
            found = one.do(THREE)
            attempt(one, lambda each: each.branch("kept"))
            return found
        self.assertEqual(attempt(house, outer), 2)
        self.assertEqual((house.now()[2], house.branches()), ([("p", 1), ("p", 3)], ["main", "kept"]))
        def both(one):
            outer(one)
            attempt(one, inner)
        self.fails(small_house(), Odd, both)
        def last(one):
            one.do(UP)
            attempt(one, lambda each: each.do(ONE))
            raise Odd()
        self.fails(house, Odd, last)

    def test_other_houses_go_on(self):
        house = small_house()
        others = []
        def action(one):
            one.do(UP)
            others.append(one.twin())
            raise Odd()
        self.fails(house, Odd, action)
        self.assertEqual((others[0].now()[0], house.now()[0]), ([UP[1:]], []))

    def test_random_ones(self):
        for seed in range(100):
            draw = random.Random(seed)
            house = House(COUNT, STATES)
            def action(one):
                for _ in range(draw.randint(0, 8)):
                    word = draw.choice(["do", "do", "do", "undo", "redo", "branch", "go", "merge"])
                    try:
                        if word == "do":
                            one.do(some_deed(draw, one))
                        elif word in ("undo", "redo"):
                            (one.undo if word == "undo" else one.redo)()
                        elif word == "branch":
                            one.branch(draw.choice("abcdef"))
                        else:
                            (one.go if word == "go" else one.merge)(draw.choice(one.branches()))
                    except (TooMany, NothingDone, ValueError):
                        pass
                if draw.random() < 0.5:
                    raise Odd()
            for _ in range(6):
                before, twin = told(house), house.twin()
                try:
                    attempt(house, action)
                except Odd:
                    self.assertEqual((told(house), house), (before, twin))


class Tried(unittest.TestCase):

    def test_words(self):
        house = small_house()
        self.assertEqual(untouched(tried, house, []), [])
        self.assertEqual(tried(house, [UP, ("drop", "up"), UP]), [1, 2, 3])
        self.assertEqual(tried(house, (ONE,)), [4])
        self.assertEqual(house.log(), [(0, UP), (1, ("drop", "up")), (2, UP), (3, ONE)])

    def test_errors(self):
        house = small_house()
        tried(house, [UP, ONE])
        before, twin = told(house), house.twin()
        for deeds, error, keeps in [([TWO, ("drop", "up"), ("drop", "up")], UnknownName, {"name": "up"}), ([TWO, None, 5], BadDeed, {}),
                                    ([("start", ("p", to(1))), ("start", ("p", 5))], BadPosition, {"number": 0}), ([TWO] * 198, TooMany, {}),
                                    ([TWO, THREE, ("bad", ("p", 4))], TooMany, {}), ([["drop", "up"]], BadDeed, {})]:
            self.assertEqual(kept(error, tried, house, deeds), keeps)
            self.assertEqual((told(house), house), (before, twin))
        self.assertEqual(tried(house, [TWO] * 197)[-1], 199)


if __name__ == "__main__":
    unittest.main()
