"""Stories: the moments, the log and the branches of a house at one time."""

from lossbars.deeds import check_moment
from lossbars.errors import BadName, NoMoment, NothingDone, TooMany, UnknownName
from lossbars.forms import is_number
from lossbars.sorts import is_word

MOST_MOMENTS = 200
MOST_BRANCHES = 6


class Story:
    """A story is never changed: what happens makes another one. So a house goes back by taking an earlier one.

    An entry is (elder, deed); a line is the name, the trail and the place of a branch."""

    def __init__(self, moments, entries, lines, at):
        self.moments = moments
        self.entries = entries
        self.lines = lines
        self.at = at

    def present_number(self):
        """The number of the present moment."""
        _, trail, place = self.lines[self.at]
        return trail[place]

    def line_at(self, name):
        """The place among the lines of the branch of this name."""
        for at, line in enumerate(self.lines):
            if line[0] == name:
                return at
        raise UnknownName(name)

    def told_at(self, number):
        """The moment of this number, any value."""
        if not is_number(number, 0, len(self.moments) - 1):
            raise NoMoment(number)
        return self.moments[number]

    def longer(self, moment, deed):
        """The story with one moment more, made by a deed out of the present one."""
        check_moment(moment)
        if len(self.moments) >= MOST_MOMENTS:
            raise TooMany()
        name, trail, place = self.lines[self.at]
        line = (name, trail[:place + 1] + (len(self.moments),), place + 1)
        entries = self.entries + ((self.present_number(), deed),)
        return Story(self.moments + (moment,), entries, self._lines_with(line), self.at)

    def moved(self, by):
        """The story so many places on in the present trail."""
        name, trail, place = self.lines[self.at]
        if not 0 <= place + by < len(trail):
            raise NothingDone()
        return Story(self.moments, self.entries, self._lines_with((name, trail, place + by)), self.at)

    def branched(self, name):
        """The story with one branch more, at the present moment."""
        if not is_word(name) or name in [line[0] for line in self.lines]:
            raise BadName(name)
        if len(self.lines) >= MOST_BRANCHES:
            raise TooMany()
        return Story(self.moments, self.entries, self.lines + ((name, (self.present_number(),), 0),), self.at)

    def gone(self, name):
        """The story in the branch of this name."""
        return Story(self.moments, self.entries, self.lines, self.line_at(name))

    def _lines_with(self, line):
        return self.lines[:self.at] + (line,) + self.lines[self.at + 1:]


def first_story():
    """The story of a new house."""
    return Story((((), (), ()),), (), (("main", (0,), 0),), 0)


def all_elders(entries, number):
    """The ascending list of the elders in all of a moment."""
    found = {number: True}
    for moment in reversed(range(1, number + 1)):
        if moment in found:
            elder, deed = entries[moment - 1]
            found[elder] = True
            if deed[0] == "merge":
                found[deed[1]] = True
    return sorted(found)


def greatest_common(entries, one, other):
    """The greatest number among the elders in all of two moments."""
    others = all_elders(entries, other)
    return max([elder for elder in all_elders(entries, one) if elder in others])
