"""A house by the words of the document: all is kept as it is told, nothing is cut short."""

from act_words import some_act
from helpers import ODD, key, some_limit, some_value
from lossbars.house import House
from lossbars.limits import ordered_limits, shaped
from lossbars.machines import Machine
from machine_words import COUNT

STATES = ["p", "q"]
UP = ("rule", "up", "p", ("add", 1), "q")
# Things that are no names of branches, of rules and of states, and no numbers of moments.
NO_NAMES = ["", "A", "a b", "toolongaa", "a1", None, True, 0, 1, (), ("up",), ["up"], {}, {"up": 1}]
NO_NUMBERS = [True, False, None, -1, "0", (0,), [0], {}, 10 ** 39]
NO_DEEDS = [value for value in ODD if not (isinstance(value, tuple) and value and value[0] in ("left", "row"))] + [
    (), ("rule",), UP[:4], UP + (1,), list(UP), ("drop",), ("drop", "up", "up"), ["drop", "up"], ("start",), ("start", 1, 2), ("unstart",),
    ("bad", "q", 3), ("unbad",), ("merge", 0), ("undo",), ("rules", 1), (("drop",), "up"), "drop", ("Drop", "up"), (None, "up")]


def small_house(states=STATES):
    return House(COUNT, states)


def told(house):
    """All that a house tells, by its calls."""
    return (house.kind, house.states(), len(house), house.log(), house.here(), house.present(),
            [(name, house.trail(name), house.mark(name)) for name in house.branches()],
            [house.moment(number) for number in range(len(house))], house.now(), [house.machine_at(k).rules() for k in range(len(house))])


class Told:
    """A house that keeps, for each moment, its elders and three dicts; errors aside."""

    def __init__(self, sort, states):
        self.bare = Machine(sort, states, [])
        self.moments = [({}, {}, {})]
        self.elders = [[]]
        self.log = []
        self.trails = {"main": [0]}
        self.marks = {"main": 0}
        self.here = "main"

    def present(self):
        return self.trails[self.here][self.marks[self.here]]

    def make(self, elders, deed, moment):
        self.moments.append(moment)
        self.elders.append(elders)
        self.log.append((elders[0], deed))
        place = self.marks[self.here]
        self.trails[self.here] = self.trails[self.here][:place + 1] + [len(self.moments) - 1]
        self.marks[self.here] = place + 1

    def do(self, deed):
        rules, starts, bad = (dict(part) for part in self.moments[self.present()])
        word = deed[0]
        if word == "rule":
            rules[deed[1]] = deed[2:]
        elif word == "drop":
            del rules[deed[1]]
        elif word in ("start", "unstart"):
            starts.pop(deed[1], None)
            starts.update({deed[1]: True} if word == "start" else {})
        else:
            bad.pop(deed[1], None)
            bad.update({deed[1]: True} if word == "bad" else {})
        self.make([self.present()], deed, (rules, starts, bad))

    def all_elders(self, number):
        return {number}.union(*[self.all_elders(elder) for elder in self.elders[number]])

    def merge(self, name):
        """Merges, and returns the names of the rules that clash."""
        number = self.trails[name][self.marks[name]]
        ours, theirs = self.all_elders(self.present()), self.all_elders(number)
        if number in ours:
            return []
        was, one, two = (self.moments[k] for k in (max(ours & theirs), self.present(), number))
        made, clashing = ({}, {}, {}), []
        for k in range(3):
            for spot in {**was[k], **one[k], **two[k]}:
                before, mine, yours = (told.get(spot) for told in (was[k], one[k], two[k]))
                if mine != before and yours != before and mine != yours:
                    clashing.append(spot)
                found = mine if mine != before else yours
                if found is not None:
                    made[k][spot] = found
        if not clashing:
            self.make([self.present(), number], ("merge", number), made)
        return sorted(clashing)

    def moment(self, number):
        rules, starts, bad = self.moments[number]
        kind, states = self.bare.kind, self.bare.states()
        limits = {state: ordered_limits(kind, [limit for name, limit in starts if name == state]) for state in states}
        return ([(name,) + rules[name] for name in sorted(rules)], [(state, limit) for state in states for limit in limits[state]],
                sorted(bad, key=lambda one: (states.index(one[0]), key(kind, one[1]))))

    def told(self):
        """As told, of what this keeps."""
        return (self.bare.kind, self.bare.states(), len(self.moments), self.log, self.here, self.present(),
                [(name, self.trails[name], self.marks[name]) for name in self.trails],
                [self.moment(k) for k in range(len(self.moments))], self.moment(self.present()),
                [self.moment(k)[0] for k in range(len(self.moments))])


def some_deed(draw, house, few=3):
    """A deed that is done, or that raises TooMany; names, values and limits are few, so that branches clash."""
    kind, states, now = house.kind, house.states(), house.now()
    word = draw.choice(["rule", "rule", "drop", "start", "unstart", "bad", "unbad"])
    if word == "rule":
        return (word, draw.choice(["up", "down", "a", "b"][:few + 1]), draw.choice(states), some_act(draw, kind, 1), draw.choice(states))
    if word == "start":
        return (word, (draw.choice(states), shaped(kind, some_limit(draw, kind, few, 1))))
    if word == "bad":
        return (word, (draw.choice(states), some_value(draw, kind, few, 1)))
    there = {"drop": [rule[0] for rule in now[0]], "unstart": now[1], "unbad": now[2]}[word]
    return (word, draw.choice(there)) if there else some_deed(draw, house, few)
