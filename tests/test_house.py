"""Points 10.1 to 10.5: the house."""

import random
import unittest

from helpers import kept, some_sort
from house_words import NO_DEEDS, NO_NAMES, NO_NUMBERS, STATES, UP, Told, small_house, some_deed, told
from limit_words import ALL, to
from lossbars.errors import (
    BadAct,
    BadDeed,
    BadName,
    BadPosition,
    BadSort,
    Clash,
    NoMoment,
    NothingDone,
    TooMany,
    TwiceTold,
    UnknownName,
)
from lossbars.house import House
from lossbars.machines import Machine
from lossbars.watching import answers
from machine_words import AB, COUNT, LANE, NONE, TILL, outcome


def full_house(moments=200):
    """A house of so many moments, in each of which the same stands."""
    house = small_house()
    for _ in range(moments - 1):
        house.do(("bad", ("p", 1)))
    return house


class Building(unittest.TestCase):

    def refused(self, house, error, keeps, call, *arguments):
        """The call raises the error, and the house tells all as before."""
        before, twin = told(house), house.twin()
        self.assertEqual(kept(error, call, *arguments), keeps)
        self.assertEqual(told(house), before)
        self.assertEqual(house, twin)


class Making(Building):

    def test_a_new_house(self):
        states = ["q", "p"]
        house = House(COUNT, states)
        states.append("r")
        self.assertEqual(told(house), (COUNT, ["q", "p"], 1, [], "main", 0, [("main", [0], 0)], [([], [], [])], ([], [], []), [[]]))
        self.assertEqual(house.machine_at(0), Machine(COUNT, ["q", "p"], []))
        self.assertEqual(House(COUNT, ("q", "p")), house)

    def test_wrong_ones(self):
        self.assertEqual(kept(BadSort, House, ("mark", ()), ["A"]), {"path": ()})
        self.assertEqual(kept(BadSort, House, ("both", COUNT, 5), ["p"]), {"path": (2,)})
        for name in NO_NAMES:
            self.assertEqual(kept(BadName, House, COUNT, ["p", name, "p"]), {"name": name})
        self.assertEqual(kept(TwiceTold, House, COUNT, ["p", "q", "p", ""]), {"name": "p"})

    def test_lists_are_new_ones(self):
        house = small_house()
        for deed in (UP, ("start", ("p", to(1))), ("bad", ("q", 2))):
            house.do(deed)
        before = told(house)
        for found in (house.states(), house.log(), house.branches(), house.trail("main"), *house.moment(3), *house.now()):
            found.append("more")
        self.assertEqual(told(house), before)
        self.assertIsNot(house.now()[1], house.now()[1])
        self.assertEqual(len({id(part) for part in house.now()}), 3)


class Deeds(Building):

    def test_each_deed(self):
        house = small_house()
        self.assertEqual(house.do(UP), 1)
        self.assertEqual(house.do(("rule", "back", "q", ("stay",), "p")), 2)
        self.assertEqual(house.do(("rule", "up", "q", ("take", 3), "q")), 3)
        self.assertEqual(house.do(("drop", "back")), 4)
        self.assertEqual([house.moment(k)[0] for k in range(5)], [
            [], [UP[1:]], [("back", "q", ("stay",), "p"), UP[1:]], [("back", "q", ("stay",), "p"), ("up", "q", ("take", 3), "q")],
            [("up", "q", ("take", 3), "q")]])
        for number, start in enumerate([("q", ALL), ("q", to(5)), ("p", to(9))]):
            self.assertEqual(house.do(("start", start)), 5 + number)
        self.assertEqual(house.now()[1], [("p", to(9)), ("q", to(5)), ("q", ALL)])
        self.assertEqual(house.do(("unstart", ("q", to(5)))), 8)
        self.assertEqual(house.now()[1], [("p", to(9)), ("q", ALL)])
        for number, bad in enumerate([("q", 9), ("q", 3), ("p", 7)]):
            self.assertEqual(house.do(("bad", bad)), 9 + number)
        self.assertEqual(house.now()[2], [("p", 7), ("q", 3), ("q", 9)])
        self.assertEqual(house.do(("unbad", ("q", 3))), 12)
        self.assertEqual(house.now(), ([("up", "q", ("take", 3), "q")], [("p", to(9)), ("q", ALL)], [("p", 7), ("q", 9)]))
        self.assertEqual(house.log()[:3], [(0, UP), (1, ("rule", "back", "q", ("stay",), "p")), (2, ("rule", "up", "q", ("take", 3), "q"))])
        self.assertEqual((len(house), house.present(), house.trail("main")), (13, 12, list(range(13))))
        self.assertEqual(house.machine_at(2), Machine(COUNT, STATES, [("back", "q", ("stay",), "p"), UP[1:]]))

    def test_the_order_of_what_is_told(self):
        # States by their places, letters by theirs in the sort; names of rules as strings.
        house = House(("lane", ("mark", ("b", "a"))), ["q", "p"])
        for value in [("p", ()), ("q", ("a",)), ("q", ("b", "a"))]:
            house.do(("bad", value))
        self.assertEqual(house.now()[2], [("q", ("b", "a")), ("q", ("a",)), ("p", ())])
        for limit in [("p", ("row", ())), ("q", ("row", (("often", (("is", "a"),)),))), ("q", ("row", (("once", ("is", "a")),)))]:
            house.do(("start", limit))
        self.assertEqual(house.now()[1], [("q", ("row", (("once", ("is", "a")),))), ("q", ("row", (("often", (("is", "a"),)),))), ("p", ("row", ()))])
        for name in ["b", "aa", "z", "a", "ba"]:
            house.do(("rule", name, "p", ("stay",), "p"))
        self.assertEqual([rule[0] for rule in house.now()[0]], ["a", "aa", "b", "ba", "z"])

    def test_what_stands_already_is_done_too(self):
        house = small_house()
        deeds = [UP, ("start", ("p", to(1))), ("bad", ("q", 2))]
        for k, deed in enumerate(deeds * 3):
            self.assertEqual(house.do(deed), k + 1)
        self.assertEqual(house.now(), ([UP[1:]], [("p", to(1))], [("q", 2)]))
        self.assertEqual(house.log(), list(enumerate(deeds * 3)))

    def test_no_deeds(self):
        house = small_house()
        house.do(UP)
        for deed in NO_DEEDS + [house, house.machine_at(0)]:
            self.refused(house, BadDeed, {}, house.do, deed)

    def test_wrong_deeds(self):
        house = small_house()
        for deed in (UP, ("start", ("p", to(1))), ("bad", ("q", 2))):
            house.do(deed)
        for name in NO_NAMES:
            self.refused(house, BadName, {"name": name}, house.do, ("rule", name, "r", ("no",), "t"))
            self.refused(house, UnknownName, {"name": name}, house.do, ("drop", name))
        for state in NO_NAMES + ["r", "up"]:
            self.refused(house, UnknownName, {"name": state}, house.do, ("rule", "up", state, ("no",), "t"))
            self.refused(house, UnknownName, {"name": state}, house.do, ("rule", "up", "p", ("no",), state))
        for act, path in [(("no",), ()), (5, ()), (["add", 1], ()), (("add", 0), (1,)), (("add", True), (1,)), (("then", ("stay",), ("take", 21)), (2, 1)),
                          (("or", ("send", 1), 5), (1,))]:
            self.refused(house, BadAct, {"path": path}, house.do, ("rule", "new", "p", act, "p"))
        self.refused(house, UnknownName, {"name": "down"}, house.do, ("drop", "down"))
        for value in NONE + [("p", 1), ("p", ["to", 1])]:
            self.refused(house, BadPosition, {"number": 0}, house.do, ("start", value))
            self.refused(house, BadPosition, {"number": 0}, house.do, ("unstart", value))
        for value in NONE + [("p", to(1)), ("p", True), ["q", 2]]:
            self.refused(house, BadPosition, {"number": 0}, house.do, ("bad", value))
            self.refused(house, BadPosition, {"number": 0}, house.do, ("unbad", value))
        for start in [("p", to(2)), ("q", to(1)), ("p", ALL)]:
            self.refused(house, UnknownName, {"name": start}, house.do, ("unstart", start))
        for bad in [("p", 2), ("q", 1)]:
            self.refused(house, UnknownName, {"name": bad}, house.do, ("unbad", bad))

    def test_limits_are_told_in_one_form(self):
        house = House(LANE, ["p"])
        row = ("row", (("often", (("is", "a"),)), ("once", ("is", "a"))))
        self.refused(house, BadPosition, {"number": 0}, house.do, ("start", ("p", row)))
        self.refused(house, BadPosition, {"number": 0}, house.do, ("start", ("p", ("row", [("once", ("is", "a"))]))))
        self.assertEqual(house.do(("start", ("p", ("row", row[1][:1])))), 1)

    def test_how_much_a_moment_tells(self):
        house = small_house()
        for name in ["a", "b", "c", "d", "e", "f"]:
            house.do(("rule", name, "p", ("stay",), "p"))
        self.refused(house, TooMany, {}, house.do, ("rule", "g", "p", ("stay",), "p"))
        house.do(("rule", "f", "q", ("stay",), "q"))
        for number in range(3):
            house.do(("start", ("p", to(number))))
            house.do(("bad", ("q", number)))
        self.refused(house, TooMany, {}, house.do, ("start", ("p", ALL)))
        self.refused(house, TooMany, {}, house.do, ("bad", ("p", 0)))
        # Errors of the deed go ahead.
        self.refused(house, BadAct, {"path": ()}, house.do, ("rule", "g", "p", ("no",), "p"))
        self.refused(house, BadPosition, {"number": 0}, house.do, ("bad", ("p", 100)))
        house.do(("start", ("p", to(2))))
        house.do(("bad", ("q", 0)))
        house.do(("drop", "a"))
        house.do(("unstart", ("p", to(0))))
        house.do(("unbad", ("q", 0)))
        self.assertEqual([len(part) for part in house.now()], [5, 2, 2])
        house.do(("rule", "g", "p", ("stay",), "p"))
        house.do(("start", ("p", ALL)))
        house.do(("bad", ("p", 0)))
        self.assertEqual([len(part) for part in house.now()], [6, 3, 3])

    def test_200_moments(self):
        house = full_house(199)
        self.assertEqual(house.do(("bad", ("p", 2))), 199)
        self.assertEqual(len(house), 200)
        self.refused(house, TooMany, {}, house.do, ("bad", ("p", 2)))
        house.undo()
        self.refused(house, TooMany, {}, house.do, ("bad", ("p", 2)))
        self.refused(house, UnknownName, {"name": "up"}, house.do, ("drop", "up"))
        self.assertEqual(house.redo(), 199)

    def test_a_house_keeps_nothing_of_what_is_passed(self):
        house = small_house()
        name = ["up"]
        for call in (lambda: house.do(("drop", name)), lambda: house.go(name), lambda: house.moment(name)):
            try:
                call()
            except (UnknownName, NoMoment) as error:
                found = vars(error)
            self.assertEqual(list(found.values()), [["up"]])
            self.assertFalse(any(part is name for part in found.values()))


class Trails(Building):

    def test_undo_and_redo(self):
        house = small_house()
        self.refused(house, NothingDone, {}, house.undo)
        self.refused(house, NothingDone, {}, house.redo)
        for number in range(3):
            house.do(("bad", ("p", number)))
        self.refused(house, NothingDone, {}, house.redo)
        self.assertEqual([house.undo(), house.undo(), house.redo(), house.undo(), house.undo()], [2, 1, 2, 1, 0])
        self.refused(house, NothingDone, {}, house.undo)
        self.assertEqual((house.trail("main"), house.mark("main"), house.present(), house.now()), ([0, 1, 2, 3], 0, 0, ([], [], [])))
        self.assertEqual([house.redo(), house.redo()], [1, 2])
        # A deed behind an undo cuts the trail; no moment goes away.
        self.assertEqual(house.do(("bad", ("q", 9))), 4)
        self.assertEqual((house.trail("main"), house.mark("main"), len(house)), ([0, 1, 2, 4], 3, 5))
        self.refused(house, NothingDone, {}, house.redo)
        self.assertEqual(house.log()[3], (2, ("bad", ("q", 9))))
        self.assertEqual(house.moment(3)[2], [("p", 0), ("p", 1), ("p", 2)])
        self.assertEqual([house.undo(), house.do(UP), house.undo(), house.undo()], [2, 5, 2, 1])

    def test_moments(self):
        house = small_house()
        house.do(UP)
        for number in NO_NUMBERS + [2]:
            self.refused(house, NoMoment, {"number": number}, house.moment, number)
            self.refused(house, NoMoment, {"number": number}, house.machine_at, number)
        self.assertEqual(house.machine_at(1).rules(), [UP[1:]])
        self.assertEqual(house.machine_at(1).states(), STATES)
        self.assertIsNot(house.machine_at(1), house.machine_at(1))
        house.undo()
        self.assertEqual((house.now(), house.moment(1)), (([], [], []), ([UP[1:]], [], [])))


class Branches(Building):

    def test_branches(self):
        house = small_house()
        house.do(("bad", ("p", 1)))
        self.assertIsNone(house.branch("side"))
        self.assertEqual((house.here(), house.present(), house.branches()), ("main", 1, ["main", "side"]))
        self.assertEqual((house.trail("side"), house.mark("side")), ([1], 0))
        self.assertEqual(house.do(("bad", ("p", 2))), 2)
        self.assertEqual((house.go("side"), house.here(), house.present()), (1, "side", 1))
        self.refused(house, NothingDone, {}, house.undo)
        self.assertEqual(house.do(("bad", ("p", 3))), 3)
        self.assertEqual((house.trail("main"), house.trail("side"), house.mark("main"), house.mark("side")), ([0, 1, 2], [1, 3], 2, 1))
        self.assertEqual([house.undo(), house.go("main"), house.undo(), house.go("side"), house.redo(), house.go("side")], [1, 2, 1, 1, 3, 3])
        self.assertEqual((house.moment(2)[2], house.moment(3)[2]), ([("p", 1), ("p", 2)], [("p", 1), ("p", 3)]))
        house.branch("b")
        self.assertEqual((house.branches(), house.trail("b"), house.here()), (["main", "side", "b"], [3], "side"))

    def test_wrong_names(self):
        house = small_house()
        house.branch("side")
        for name in NO_NAMES + ["side", "main"]:
            self.refused(house, BadName, {"name": name}, house.branch, name)
        for name in NO_NAMES + ["sid", "sidee"]:
            for call in (house.go, house.trail, house.mark, house.merge):
                self.refused(house, UnknownName, {"name": name}, call, name)

    def test_six_branches(self):
        house = small_house()
        for name in ["a", "b", "c", "d", "toolonga"]:
            house.branch(name)
        self.assertEqual(len(house.branches()), 6)
        self.refused(house, TooMany, {}, house.branch, "f")
        self.refused(house, BadName, {"name": "a"}, house.branch, "a")
        self.refused(house, BadName, {"name": 5}, house.branch, 5)

    def test_200_moments_are_no_end_of_branches(self):
        house = full_house()
        house.branch("side")
        self.assertEqual([house.undo(), house.go("side"), house.merge("main")], [198, 199, 199])


class Merges(Building):

    def two_sides(self, before, ours, theirs):
        house = small_house()
        for deed in before:
            house.do(deed)
        house.branch("side")
        for deed in ours:
            house.do(deed)
        house.go("side")
        for deed in theirs:
            house.do(deed)
        house.go("main")
        return house

    def test_what_is_among_the_elders(self):
        house = self.two_sides([UP], [("bad", ("p", 1))], [])
        before = told(house)
        self.assertEqual([house.merge("side"), house.merge("main")], [2, 2])
        self.assertEqual(told(house), before)
        # Also by an undo: what stands at the branch's place counts.
        house = self.two_sides([UP], [], [("bad", ("p", 1))])
        house.go("side")
        house.undo()
        house.go("main")
        self.assertEqual((house.merge("side"), len(house)), (1, 3))

    def test_what_is_ahead(self):
        house = self.two_sides([UP], [], [("bad", ("p", 1)), ("drop", "up")])
        self.assertEqual(house.merge("side"), 4)
        self.assertEqual(house.moment(4), house.moment(3))
        self.assertEqual(house.log()[3], (1, ("merge", 3)))
        self.assertEqual((house.trail("main"), house.trail("side"), house.mark("side")), ([0, 1, 4], [1, 2, 3], 2))
        # Now it is among the elders.
        self.assertEqual((house.merge("side"), len(house)), (4, 5))
        self.assertEqual([house.go("side"), house.merge("main"), house.merge("main")], [3, 5, 5])
        self.assertEqual(house.log()[4], (3, ("merge", 4)))

    def test_spot_by_spot(self):
        before = [("rule", "a", "p", ("stay",), "p"), ("rule", "b", "p", ("stay",), "p"), ("rule", "c", "p", ("stay",), "p"),
                  ("start", ("p", to(1))), ("start", ("p", to(2))), ("bad", ("q", 1)), ("bad", ("q", 2))]
        new, more = ("rule", "d", "q", ("add", 1), "q"), ("rule", "e", "q", ("add", 1), "q")
        house = self.two_sides(
            before,
            [("drop", "a"), ("rule", "b", "q", ("add", 2), "q"), new, ("unstart", ("p", to(1))), ("bad", ("p", 5)), ("unbad", ("q", 1))],
            [("rule", "b", "q", ("add", 2), "q"), ("rule", "c", "p", ("add", 3), "q"), more, new, ("start", ("q", ALL)), ("unbad", ("q", 1)), ("bad", ("p", 5))])
        self.assertEqual(house.merge("side"), 21)
        self.assertEqual(house.now(), ([("b", "q", ("add", 2), "q"), ("c", "p", ("add", 3), "q"), new[1:], more[1:]],
                                       [("p", to(2)), ("q", ALL)], [("p", 5), ("q", 2)]))
        self.assertEqual(house.log()[-1], (13, ("merge", 20)))
        # The other branch stays as it is.
        self.assertEqual((house.trail("side"), house.mark("side"), house.here()), ([7] + list(range(14, 21)), 7, "main"))

    def test_what_was_done_and_taken_back_is_no_change(self):
        stay = ("rule", "a", "p", ("stay",), "p")
        house = self.two_sides([stay], [("drop", "a"), stay, ("bad", ("p", 1)), ("unbad", ("p", 1))],
                               [("rule", "a", "q", ("stay",), "q"), ("bad", ("p", 1))])
        house.merge("side")
        self.assertEqual(house.now(), ([("a", "q", ("stay",), "q")], [], [("p", 1)]))

    def test_clashes(self):
        stay, go, back = ("rule", "a", "p", ("stay",), "p"), ("rule", "a", "p", ("stay",), "q"), ("rule", "a", "q", ("stay",), "p")
        for before, ours, theirs in [([], [stay], [go]), ([stay], [go], [back]), ([stay], [("drop", "a")], [go]), ([stay], [go], [("drop", "a")]),
                                     ([], [stay, ("bad", ("p", 1))], [("rule", "a", "p", ("add", 1), "p"), ("bad", ("p", 1))])]:
            house = self.two_sides(before, ours, theirs)
            self.refused(house, Clash, {"spots": (("rule", "a"),)}, house.merge, "side")
        for before, ours, theirs in [([], [stay], [stay]), ([stay], [go], [go]), ([stay], [("drop", "a")], [("drop", "a")]), ([stay], [stay], [go])]:
            house = self.two_sides(before, ours, theirs)
            house.merge("side")
            self.assertEqual(house.now()[0], house.moment(house.log()[-1][1][1])[0])
        names = ["b", "aa", "c", "a"]
        house = self.two_sides([], [("rule", name, "p", ("stay",), "p") for name in names], [("rule", name, "q", ("stay",), "p") for name in names[:3]])
        self.refused(house, Clash, {"spots": (("rule", "aa"), ("rule", "b"), ("rule", "c"))}, house.merge, "side")

    def test_the_last_common_moment(self):
        # Behind a merge it is the moment that was merged in, not the first one.
        house = self.two_sides([UP], [("bad", ("p", 1))], [("rule", "up", "q", ("stay",), "q")])
        house.merge("side")
        house.go("side")
        house.do(("rule", "up", "p", ("stay",), "p"))
        house.go("main")
        house.merge("side")
        self.assertEqual(house.now(), ([("up", "p", ("stay",), "p")], [], [("p", 1)]))
        # The greatest of several.
        house = self.two_sides([], [("bad", ("p", 1))], [("bad", ("p", 2))])
        house.merge("side")
        house.go("side")
        house.merge("main")
        house.do(("unbad", ("p", 1)))
        house.go("main")
        house.do(("unbad", ("p", 2)))
        house.merge("side")
        self.assertEqual(house.now()[2], [])

    def test_too_many(self):
        rules = [("rule", name, "p", ("stay",), "p") for name in "abcdefg"]
        house = self.two_sides(rules[:2], rules[2:5], rules[5:6])
        self.assertEqual(house.merge("side"), 7)
        house = self.two_sides(rules[:2], rules[2:5], rules[5:])
        self.refused(house, TooMany, {}, house.merge, "side")
        house = self.two_sides([], [("bad", ("p", 1)), ("bad", ("p", 2))], [("bad", ("q", 1)), ("bad", ("q", 2))])
        self.refused(house, TooMany, {}, house.merge, "side")
        house = self.two_sides([], [("start", ("p", to(1))), ("start", ("p", to(2)))], [("start", ("p", to(3))), ("start", ("p", to(4)))])
        self.refused(house, TooMany, {}, house.merge, "side")
        clash = [rules[0]], [("rule", "a", "q", ("stay",), "q"), ("bad", ("p", 1)), ("bad", ("p", 2))], [("drop", "a"), ("bad", ("q", 1)), ("bad", ("q", 2))]
        house = self.two_sides(*clash)
        self.refused(house, Clash, {"spots": (("rule", "a"),)}, house.merge, "side")

    def test_200_moments(self):
        same = [("bad", ("p", 1))]
        house = self.two_sides(same * 99, same * 50, same * 49)
        self.assertEqual((len(house), house.merge("side")), (199, 199))
        house = self.two_sides(same * 99, same * 50, same * 50)
        self.refused(house, TooMany, {}, house.merge, "side")
        house = self.two_sides(same * 99, same * 99 + [UP], [])
        self.assertEqual((len(house), house.merge("side")), (200, 199))
        house = self.two_sides(same * 99, same * 99, [])
        house.undo()
        house.do(UP)
        self.assertEqual(len(house), 200)
        house = self.two_sides([], [UP] * 100, [("rule", "up", "q", ("stay",), "q")] * 99)
        self.refused(house, Clash, {"spots": (("rule", "up"),)}, house.merge, "side")


class Equal(unittest.TestCase):

    def test_what_counts(self):
        house = small_house()
        for other in [House(COUNT, ["q", "p"]), House(LANE, STATES), House(COUNT, ["p"]), None, 5, TILL, house.machine_at(0), "house", (), []]:
            self.assertFalse(house == other)
            self.assertTrue(house != other)
        self.assertEqual(house, small_house())
        steps = [lambda one: one.do(UP), lambda one: one.branch("side"), lambda one: one.undo(), lambda one: one.redo(), lambda one: one.go("side"),
                 lambda one: one.do(("drop", "up")), lambda one: one.go("main"), lambda one: one.do(("bad", ("p", 1))), lambda one: one.merge("side")]
        other = small_house()
        for k, step in enumerate(steps):
            step(house)
            self.assertFalse(house == other)
            step(other)
            self.assertEqual(house, other)

    def test_the_order_of_branches_and_what_no_trail_shows(self):
        one, other = small_house(), small_house()
        for name in "ab":
            one.branch(name)
        for name in "ba":
            other.branch(name)
        self.assertFalse(one == other)
        one, other = small_house(), small_house()
        for house, number in ((one, 1), (other, 2)):
            house.do(("bad", ("p", number)))
            house.undo()
            house.do(UP)
        self.assertEqual((one.trail("main"), one.now()), (other.trail("main"), other.now()))
        self.assertFalse(one == other)

    def test_twins(self):
        house = small_house()
        for deed in (UP, ("start", ("p", to(1))), ("bad", ("q", 2))):
            house.do(deed)
        house.branch("side")
        house.undo()
        twin = house.twin()
        self.assertEqual((twin, told(twin)), (house, told(house)))
        self.assertIsNot(twin, house)
        before = told(house)
        for call in (lambda: twin.do(("drop", "up")), lambda: twin.branch("b"), lambda: twin.go("side"), lambda: twin.merge("main")):
            call()
            self.assertEqual(told(house), before)
            self.assertFalse(twin == house)
        after = told(twin)
        house.redo()
        house.do(("bad", ("p", 1)))
        self.assertEqual(told(twin), after)


class AtRandom(unittest.TestCase):

    def test_by_the_words(self):
        seen = {}
        for seed in range(150):
            draw = random.Random(seed)
            sort = draw.choice([COUNT, AB, LANE, some_sort(draw, 2, 1)])
            house, words = House(sort, ["q", "p"]), Told(sort, ["q", "p"])
            for _ in range(draw.randint(5, 40)):
                word = draw.choice(["do"] * 6 + ["undo", "undo", "redo", "branch", "go", "merge", "merge"])
                self.step(draw, word, house, words)
                seen[word] = seen.get(word, 0) + 1
                self.assertEqual(told(house), words.told())
            self.told_at_once(house)
        self.assertGreater(min(seen.values()), 100)

    def step(self, draw, word, house, words):
        name = draw.choice(house.branches())
        if word == "do":
            deed = some_deed(draw, house, 2)
            if outcome(house.do, deed) is not TooMany:
                words.do(deed)
        elif word in ("undo", "redo"):
            there = words.marks[words.here] + (1 if word == "redo" else -1)
            if 0 <= there < len(words.trails[words.here]):
                words.marks[words.here] = there
                self.assertEqual((house.undo if word == "undo" else house.redo)(), words.present())
            else:
                self.assertEqual(kept(NothingDone, house.undo if word == "undo" else house.redo), {})
        elif word == "branch" and len(house.branches()) < 6:
            name = draw.choice("abcdefgh")
            if name not in house.branches():
                house.branch(name)
                words.trails[name], words.marks[name] = [words.present()], 0
        elif word == "go":
            words.here = name
            self.assertEqual(house.go(name), words.present())
        elif word == "merge":
            self.merge(house, words, name)

    def merge(self, house, words, name):
        many = len(words.moments)
        clashing = words.merge(name)
        if clashing:
            self.assertEqual(kept(Clash, house.merge, name), {"spots": tuple(("rule", spot) for spot in clashing)})
        elif len(words.moments) > many and any(len(part) > most for part, most in zip(words.moments[-1], (6, 3, 3))):
            self.assertEqual(kept(TooMany, house.merge, name), {})
            # Nothing was done, so what the words made goes away again.
            for told_list in (words.moments, words.elders, words.log, words.trails[words.here]):
                told_list.pop()
            words.marks[words.here] -= 1
            house_trail = house.trail(house.here())
            words.trails[words.here] = house_trail
        else:
            self.assertEqual(house.merge(name), words.present())

    def told_at_once(self, house):
        """A house that is told at once what another one came to tells the same."""
        other = House(house.kind, house.states())
        rules, starts, bad = house.now()
        for deed in [("rule",) + rule for rule in rules[::-1]] + [("start", one) for one in starts[::-1]] + [("bad", one) for one in bad]:
            other.do(deed)
        self.assertEqual((other.now(), other.machine_at(other.present())), (house.now(), house.machine_at(house.present())))
        self.assertEqual(outcome(answers, other, other.present()), outcome(answers, house, house.present()))


if __name__ == "__main__":
    unittest.main()
