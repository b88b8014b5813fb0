"""Point 10.6: answers, papers, verdicts."""

import random
import unittest

from helpers import kept, shown, some_limit, untouched
from house_words import NO_NUMBERS, UP, small_house, some_deed, told
from limit_words import ALL, bag, pair, to
from lossbars.bars import judge_bar
from lossbars.branches import tried
from lossbars.errors import BadDeed, BadPosition, NoMoment, TooMany, UnknownName
from lossbars.growing import grown
from lossbars.house import House
from lossbars.limits import ordered_limits, shaped
from lossbars.machines import Machine
from lossbars.rounds import decide
from lossbars.runs import judge_run
from lossbars.shields import judge_shield, shield_of
from lossbars.watching import answer, answers, judge_verdict, right_at, verdict, would_change
from machine_words import COUNT, LANE, NONE, TILL, changed, outcome, some_machine
from shield_words import PAPERS

ZERO, FAR = ("on", to(0)), ("on", to(20))
UP_ON = ("rule", "up", "on", ("add", 1), "on")
FIRST = [UP_ON, ("bad", ("on", 3)), ("start", ZERO)]
RUN = (0, ("on", 0), (("up", 1), ("up", 2), ("up", 3)))
# From 80 on a run by this rule is too great to be looked at.
RISE = ("rule", "rise", "on", ("add", 20), "on")
FALL = ("rule", "fall", "on", ("take", 20), "on")


def on_house(deeds=FIRST):
    house = House(COUNT, ["on"])
    tried(house, deeds)
    return house


def told_verdict(machine, bad, start, value):
    """Whether any value is a verdict by the words of [10.6]."""
    if not isinstance(value, tuple) or len(value) != 2 or not isinstance(value[1], tuple) or len(value[1]) != 2:
        return False
    word, (kind, paper) = value
    if (word, kind) == ("wrong", "run"):
        return judge_run(machine, [start], bad, paper) is None
    if (word, kind) == ("fine", "bar"):
        return judge_bar(machine, [start], bad, paper) is None
    return (word, kind) == ("fine", "shield") and isinstance(paper, tuple) and judge_shield(machine, [start], bad, paper) is None


class Examples(unittest.TestCase):

    def test_them(self):
        house = House(COUNT, ["on"])
        self.assertEqual(tried(house, FIRST), [1, 2, 3])
        self.assertEqual([answer(house, 2, ZERO), answers(house, 3), answer(house, 1, ZERO)], ["wrong", [(ZERO, "wrong")], "fine"])
        self.assertEqual([verdict(house, 3, ("on", ALL))[0], verdict(house, 0, ("on", to(2))), would_change(house, [("drop", "up")])],
                         ["wrong", ("fine", ("bar", ())), [(ZERO, "wrong", "fine")]])
        self.assertEqual([house.do(("drop", "up")), verdict(house, 4, ("on", to(2))), right_at(house, ("on", to(2)), ("fine", ("bar", (("on", 3),))))],
                         [4, ("fine", ("bar", (("on", 3),))), [0, 4]])
        self.assertEqual([house.branch("side"), house.undo(), house.go("side"), house.merge("main"), house.moment(4)[0]], [None, 3, 4, 4, []])
        self.assertIs(judge_verdict(house.machine_at(4), [("on", 3)], ("on", to(2)), ("fine", ("shield", (("on", to(2)),)))), True)


class Answers(unittest.TestCase):

    def test_words(self):
        house = on_house(FIRST + [("start", FAR), ("drop", "up")])
        self.assertEqual([untouched(answers, house, k) for k in range(6)],
                         [[], [], [], [(ZERO, "wrong")], [(ZERO, "wrong"), (FAR, "wrong")], [(ZERO, "fine"), (FAR, "wrong")]])
        self.assertEqual(untouched(verdict, house, 5, FAR), ("wrong", ("run", (0, ("on", 3), ()))))
        self.assertEqual(untouched(verdict, house, 5, ZERO), ("fine", ("bar", (("on", 3),))))
        self.assertEqual(verdict(house, 4, ZERO), ("wrong", ("run", RUN)))
        # A start need not be told, and the present moment does not count.
        house.undo()
        self.assertEqual([answer(house, 5, ("on", to(2))), answer(house, 5, ("on", ALL)), answer(house, 1, ("on", ALL))], ["fine", "wrong", "fine"])

    def test_ascending(self):
        house = House(("both", COUNT, COUNT), ["q", "p"])
        starts = [("p", pair(to(1), to(1))), ("q", pair(ALL, to(0))), ("q", pair(to(5), ALL))]
        tried(house, [("start", start) for start in starts] + [("bad", ("q", (9, 0)))])
        self.assertEqual(answers(house, 4), [(starts[2], "fine"), (starts[1], "wrong"), (starts[0], "fine")])

    def test_wrong_ones(self):
        house = on_house()
        for number in NO_NUMBERS + [4]:
            for call in (answer, verdict):
                self.assertEqual(kept(NoMoment, call, house, number, None), {"number": number})
            self.assertEqual(kept(NoMoment, answers, house, number), {"number": number})
        for start in NONE + [("on", 1), ["on", to(1)], ("on", ("to", True))]:
            for call in (answer, verdict):
                self.assertEqual(kept(BadPosition, call, house, 3, start), {"number": 0})
            self.assertEqual(kept(BadPosition, right_at, house, start, None), {"number": 0})

    def test_too_many(self):
        house = on_house([FALL, ("bad", ("on", 80)), ("start", ZERO)])
        for call in (answer, verdict):
            self.assertEqual(kept(TooMany, call, house, 2, ZERO), {})
            self.assertEqual(kept(BadPosition, call, house, 2, 5), {"number": 0})
        self.assertEqual(kept(TooMany, answers, house, 3), {})
        self.assertEqual((answers(house, 2), answer(house, 1, ZERO), answer(house, 3, ("on", ALL))), ([], "fine", "wrong"))
        # Sixteen rounds and no more.
        house = on_house([UP_ON, ("bad", ("on", 17))])
        self.assertEqual((answer(house, 2, ("on", to(1))), outcome(answer, house, 2, ZERO)), ("wrong", TooMany))

    def test_as_decide(self):
        words = {}
        for seed in range(150):
            draw = random.Random(seed)
            machine, starts, bad = some_machine(draw)
            house = self.house_of(draw, machine, starts, bad)
            for start in starts:
                wanted = outcome(decide, machine, [start], bad)
                found = outcome(verdict, house, house.present(), start)
                self.assertIs(found is TooMany, wanted is TooMany)
                self.assertEqual(outcome(answer, house, house.present(), start), TooMany if found is TooMany else found[0])
                if found is TooMany:
                    continue
                words[found[0]] = words.get(found[0], 0) + 1
                self.assertEqual(found[0], "wrong" if wanted[0] == "run" else "fine")
                self.assertEqual(found[1][0], wanted[0])
                if found[0] == "fine":
                    self.assertEqual(found[1], wanted)
                if outcome(judge_verdict, machine, bad, start, found) is not TooMany:
                    self.assertIs(judge_verdict(machine, bad, start, found), True)
                    self.assertIn(house.present(), outcome(right_at, house, start, found) if outcome(right_at, house, start, found) is not TooMany
                                  else [house.present()])
        self.assertGreater(min(words.values()), 40)

    def house_of(self, draw, machine, starts, bad):
        """A house that tells this machine, these starts and bad positions, told in any order."""
        house = House(machine.kind, machine.states())
        deeds = [("rule",) + rule for rule in machine.rules()] + [("start", one) for one in starts] + [("bad", one) for one in bad]
        draw.shuffle(deeds)
        tried(house, deeds)
        return house


class Verdicts(unittest.TestCase):

    def test_right_ones(self):
        machine = Machine(COUNT, ["on"], [("down", "on", ("take", 1), "on")])
        bad = [("on", 5), ("on", 3)]
        for start, value in [(ZERO, ("fine", ("bar", (("on", 3),)))), (ZERO, ("fine", ("bar", (("on", 1),)))), (ZERO, ("fine", ("shield", (ZERO,)))),
                             (ZERO, ("fine", ("shield", (("on", to(2)), ZERO)))), (FAR, ("wrong", ("run", (0, ("on", 3), ())))),
                             (FAR, ("wrong", ("run", (0, ("on", 9), (("down", 8), ("down", 4))))))]:
            self.assertIs(untouched(judge_verdict, machine, bad, start, value), True)
            self.assertIs(judge_verdict(machine, tuple(bad), start, value), True)
            self.assertIs(judge_verdict(machine, bad, start, list(value)), False)
            self.assertIs(judge_verdict(machine, bad, start, (value[0], list(value[1]))), False)
            self.assertIs(judge_verdict(machine, bad, start, value + (1,)), False)
            self.assertIs(judge_verdict(machine, bad, start, (value[0], value[1] + (1,))), False)
            self.assertIs(judge_verdict(machine, bad, start, (value[0], value[1][1])), False)
            other = "fine" if value[0] == "wrong" else "wrong"
            self.assertIs(judge_verdict(machine, bad, start, (other, value[1])), False)
            for word in ("run", "bar", "shield", "paper", "", None, 5, ["run"], ("run",)):
                if word != value[1][0]:
                    self.assertIs(judge_verdict(machine, bad, start, (value[0], (word, value[1][1]))), False)
            # A paper for another start.
            self.assertIs(judge_verdict(machine, bad, FAR if start == ZERO else ZERO, value), False)

    def test_papers_that_are_none(self):
        machine, bad = on_house().machine_at(3), [("on", 3)]
        for value in PAPERS + [("fine",), ("fine", None), ("fine", ()), ("wrong", ("run",)), ("fine", ("bar", None)), ("fine", ("shield", None)),
                               ("wrong", ("run", (1, ("on", 0), RUN[2]))), ("wrong", ("run", RUN[:2])), ("wrong", ("run", (False,) + RUN[1:])),
                               ("wrong", ("run", (0, ("on", 0), RUN[2][1:]))), ("fine", ("bar", (("on", 0),))), ("fine", ("bar", ())),
                               ("fine", ("shield", ()))]:
            self.assertIs(judge_verdict(machine, bad, ZERO, value), False)
        self.assertIs(judge_verdict(machine, bad, ZERO, ("wrong", ("run", RUN))), True)
        down = Machine(COUNT, ["on"], [])
        # A shield is a tuple, a list is none here.
        self.assertIs(judge_verdict(down, bad, ZERO, ("fine", ("shield", [ZERO]))), False)
        self.assertIs(judge_verdict(down, bad, ZERO, ("fine", ("shield", (ZERO,)))), True)
        # Shields in the place of bars, bars in the place of shields.
        self.assertIs(judge_verdict(down, bad, ZERO, ("fine", ("bar", (ZERO,)))), False)
        self.assertIs(judge_verdict(down, bad, ZERO, ("fine", ("shield", (("on", 3),)))), False)

    def test_wrong_ones(self):
        machine = on_house().machine_at(3)
        for value in NONE + [ZERO]:
            self.assertEqual(kept(BadPosition, judge_verdict, machine, [("on", 1), value, value], value, value), {"number": 1})
        for value in NONE + [("on", 1)]:
            self.assertEqual(kept(BadPosition, judge_verdict, machine, [("on", 1), ("on", 2)], value, value), {"number": 2})
            self.assertEqual(kept(BadPosition, judge_verdict, machine, [], value, value), {"number": 0})

    def test_too_many(self):
        machine, start = Machine(COUNT, ["on"], [RISE[1:], FALL[1:]]), ("on", ALL)
        bad = [("on", 90)]
        run, shield = (0, ("on", 85), (("rise", 99),)), (("on", to(85)),)
        bar = (("on", 85),)
        self.assertEqual(kept(TooMany, judge_verdict, machine, bad, start, ("wrong", ("run", run))), {})
        self.assertEqual(kept(TooMany, judge_verdict, machine, bad, ZERO, ("fine", ("shield", shield))), {})
        self.assertEqual(kept(TooMany, judge_verdict, Machine(COUNT, ["on"], [FALL[1:]]), bad, ZERO, ("fine", ("bar", bar))), {})
        # Where the paper is none for the answer, it is not looked at.
        for word, paper in [("fine", ("run", run)), ("wrong", ("shield", shield)), ("wrong", ("bar", bar)), ("fine", ("shield", list(shield))),
                            ("fine", ("Shield", shield)), ("Fine", ("shield", shield))]:
            self.assertIs(judge_verdict(machine, bad, ZERO, (word, paper)), False)
        house = on_house([("bad", ("on", 90)), RISE])
        self.assertEqual(kept(TooMany, right_at, house, ZERO, ("fine", ("shield", shield))), {})
        self.assertEqual(right_at(house, ZERO, ("fine", ("shield", shield[:0]))), [])
        # Also at a moment that no trail shows any more.
        house.undo()
        house.do(("bad", ("on", 91)))
        self.assertEqual(house.trail("main"), [0, 1, 3])
        self.assertEqual(kept(TooMany, right_at, house, ZERO, ("fine", ("shield", shield))), {})
        self.assertEqual(right_at(house, ZERO, ("fine", ("shield", (ZERO,)))), [0, 1, 3])

    def test_elder_papers(self):
        house = on_house()
        tried(house, [("drop", "up"), UP_ON, ("unbad", ("on", 3)), ("bad", ("on", 2)), ("unstart", ZERO)])
        wrong, fine = ("wrong", ("run", RUN)), ("fine", ("bar", (("on", 1),)))
        self.assertEqual(untouched(right_at, house, ZERO, wrong), [2, 3, 5, 7, 8])
        self.assertEqual(untouched(right_at, house, ZERO, fine), [0, 4])
        self.assertEqual(right_at(house, ("on", to(1)), fine), [])
        self.assertEqual(right_at(house, ("on", ALL), ("fine", ("bar", ()))), [0, 1, 6])
        for value in PAPERS:
            self.assertEqual(right_at(house, ZERO, value), [])

    def test_changed_ones_by_the_words(self):
        seen = {}
        for seed in range(400):
            draw = random.Random(seed)
            machine, starts, bad = some_machine(draw)
            start = (starts + [(machine.states()[0], shaped(machine.kind, some_limit(draw, machine.kind, 2, 2)))])[0]
            answered = outcome(decide, machine, [start], bad)
            if answered is TooMany:
                continue
            papers = [("wrong" if answered[0] == "run" else "fine", answered)]
            if answered[0] == "bar":
                shields = [outcome(shield_of, machine, answered[1]), outcome(grown, machine, [start], bad)]
                papers += [("fine", ("shield", tuple(shields[0])))] if shields[0] is not TooMany else []
                papers += [("fine", ("shield", tuple(shields[1][1])))] if shields[1] is not TooMany else []
            for value in papers + [self.spoilt(draw, one) for one in papers for _ in range(4)]:
                wanted = outcome(told_verdict, machine, bad, start, value)
                self.assertEqual(outcome(judge_verdict, machine, bad, start, value), wanted)
                seen[wanted] = seen.get(wanted, 0) + 1
        self.assertGreater(min(seen[True], seen[False]), 150)

    def spoilt(self, draw, value):
        if draw.random() < 0.3:
            return changed(draw, value)
        return (value[0], (value[1][0], changed(draw, value[1][1])))

    def test_at_later_moments(self):
        looked = {True: 0, False: 0}
        for seed in range(60):
            draw = random.Random(seed)
            house = House(draw.choice([COUNT, LANE, ("heap", COUNT)]), ["p", "q"])
            for _ in range(10):
                outcome(house.do, some_deed(draw, house, 2))
            for number in draw.sample(range(len(house)), 3):
                start = (draw.choice("pq"), shaped(house.kind, some_limit(draw, house.kind, 2, 2)))
                found = outcome(verdict, house, number, start)
                if found is TooMany or outcome(right_at, house, start, found) is TooMany:
                    continue
                there = right_at(house, start, found)
                self.assertIn(number, there)
                for k in range(len(house)):
                    right = told_verdict(house.machine_at(k), house.moment(k)[2], start, found)
                    self.assertIs(k in there, right)
                    looked[right] += 1
        self.assertGreater(min(looked.values()), 80)


class WouldChange(unittest.TestCase):

    def told(self, house, deeds):
        """What would_change tells by the words of the interface, done in a twin."""
        other = house.twin()
        tried(other, deeds)
        now = {shown(start): (start, word) for start, word in answers(house, house.present())}
        then = {shown(start): (start, word) for start, word in answers(other, other.present())}
        found = []
        for text in {**now, **then}:
            before, after = (told.get(text, (None, None))[1] for told in (now, then))
            if before != after:
                found.append(((now.get(text) or then.get(text))[0], before, after))
        order = {}
        for state in house.states():
            for limit in ordered_limits(house.kind, [start[1] for start, _, _ in found if start[0] == state]):
                order[shown((state, limit))] = len(order)
        return sorted(found, key=lambda row: order[shown(row[0])])

    def test_words(self):
        house = on_house(FIRST + [("start", ("on", ALL))])
        before, twin = told(house), house.twin()
        for deeds, wanted in [
                ([], []), ([("drop", "up")], [(ZERO, "wrong", "fine")]), ([("drop", "up"), UP_ON], []), ([("bad", ("on", 9))], []),
                ([("unstart", ZERO)], [(ZERO, "wrong", None)]), ([("start", FAR)], [(FAR, None, "wrong")]),
                ([("start", FAR), ("unstart", ZERO), ("unbad", ("on", 3))], [(ZERO, "wrong", None), (FAR, None, "fine"), (("on", ALL), "wrong", "fine")]),
                ((("unstart", ZERO), ("start", ZERO)), []), ([("unstart", ZERO), ("drop", "up"), ("start", ZERO)], [(ZERO, "wrong", "fine")])]:
            self.assertEqual(untouched(would_change, house, deeds), wanted)
            self.assertEqual(self.told(house, deeds), wanted)
            self.assertEqual((told(house), house), (before, twin))
        # Behind an undo it is the moment at which the house stands that counts.
        house.undo()
        self.assertEqual(would_change(house, [("drop", "up")]), [(ZERO, "wrong", "fine")])
        self.assertEqual(house.redo(), 4)

    def test_wrong_ones(self):
        house = on_house()
        before, twin = told(house), house.twin()
        for deeds, error, keeps in [([5], BadDeed, {}), ([("drop", "up"), ("drop", "up")], UnknownName, {"name": "up"}),
                                    ([("unbad", ("on", 3)), ("bad", 7)], BadPosition, {"number": 0}), ([UP_ON] * 197, TooMany, {}),
                                    ([("bad", ("on", 80)), FALL, None], BadDeed, {})]:
            self.assertEqual(kept(error, would_change, house, deeds), keeps)
            self.assertEqual((told(house), house), (before, twin))
        self.assertEqual(would_change(house, [UP_ON] * 196), [])

    def test_too_many(self):
        high = [FALL, ("bad", ("on", 80)), ("start", ZERO)]
        house = on_house([("start", ZERO)])
        before = told(house)
        self.assertEqual(kept(TooMany, would_change, house, high), {})
        self.assertEqual(would_change(house, high[:2] + [("unstart", ZERO)]), [(ZERO, "fine", None)])
        self.assertEqual(told(house), before)
        house = on_house(high)
        self.assertEqual(kept(TooMany, would_change, house, [("unstart", ZERO)]), {})
        self.assertEqual(kept(UnknownName, would_change, house, [("unstart", ZERO), ("drop", "up")]), {"name": "up"})

    def test_random_ones(self):
        sizes = {}
        for seed in range(150):
            draw = random.Random(seed)
            house = House(draw.choice([COUNT, LANE, ("heap", COUNT)]), ["p", "q"])
            for _ in range(10):
                outcome(house.do, some_deed(draw, house, 2))
            other, deeds = house.twin(), []
            for _ in range(draw.randint(0, 5)):
                deed = some_deed(draw, other, 2)
                if outcome(other.do, deed) is not TooMany:
                    deeds.append(deed)
            before = told(house)
            found = outcome(would_change, house, deeds)
            self.assertEqual(found, outcome(self.told, house, deeds))
            self.assertEqual(told(house), before)
            if found is not TooMany:
                sizes[len(found)] = sizes.get(len(found), 0) + 1
        self.assertGreater(len(sizes), 3)


class Whole(unittest.TestCase):

    def test_a_house_of_heaps(self):
        house = House(("heap", COUNT), ["on"])
        start = ("on", bag([to(5)], []))
        tried(house, [("rule", "in", "on", ("put", 2), "on"), ("bad", ("on", (3, 3))), ("start", start), ("bad", ("on", (2, 2, 2)))])
        self.assertEqual([answer(house, k, start) for k in range(5)], ["fine", "fine", "fine", "fine", "wrong"])
        self.assertEqual(would_change(house, [("drop", "in")]), [(start, "wrong", "fine")])
        self.assertIs(judge_verdict(TILL, [], ("s", ALL), ("fine", ("bar", ()))), True)
        self.assertEqual(small_house().do(UP), 1)


if __name__ == "__main__":
    unittest.main()
