"""Going back from bad positions, and the paths on to them."""

from lossbars.backward import act_back
from lossbars.errors import TooMany
from lossbars.standing import first_met, least_of


class Backs:
    """The backs of positions by the rules of a machine, each made once; TooMany for one of more than most."""

    def __init__(self, machine, most=None):
        self._kind = machine.kind
        self._rules = machine.rules()
        self._most = most
        self._known = {}

    def by(self, number, position):
        """The positions of the back of a position by the rule of this number."""
        _, begin, act, end = self._rules[number]
        if position[0] != end:
            return []
        if (number, position) not in self._known:
            values = act_back(self._kind, act, position[1])
            if self._most is not None and len(values) > self._most:
                raise TooMany()
            self._known[(number, position)] = [(begin, value) for value in values]
        return self._known[(number, position)]


class Search:
    """What is found by going back from bad positions, each with the row that leads on from it."""

    def __init__(self, machine, backs, bad):
        self._machine = machine
        self._names = [rule[0] for rule in machine.rules()]
        self._backs = backs
        self._bad = least_of(machine, bad)
        self._onward = {position: None for position in self._bad}

    def bad(self):
        """The least list of the bad positions."""
        return list(self._bad)

    def back_by(self, number, positions):
        """The backs of some positions that were found, by the rule of this number."""
        found = []
        for position in positions:
            for came in self._backs.by(number, position):
                # What was found before keeps its row, so no row leads round.
                self._onward.setdefault(came, (self._names[number], position))
                found.append(came)
        return found

    def back_from(self, positions):
        """The backs of some positions that were found, by all rules."""
        return [came for number in range(len(self._names)) for came in self.back_by(number, positions)]

    def run_from(self, starts, positions):
        """A run from a start by way of one of some positions that were found; None if no start meets one."""
        meeting = first_met(self._machine, starts, positions)
        if meeting is None:
            return None
        number, position = meeting
        return (number, position, self._path_on(position))

    def _path_on(self, position):
        rows = []
        onward = self._onward[position]
        while onward is not None:
            name, position = onward
            rows.append((name, position[1]))
            onward = self._onward[position]
        return tuple(rows)
