"""A house, in which rules, starts and bad positions come and go."""

from lossbars.deeds import check_deed, merged_moment, moment_behind
from lossbars.machines import Machine
from lossbars.stories import all_elders, first_story, greatest_common


class House:
    """Moments, each made by a deed or a merge, and branches that lead through them."""

    def __init__(self, sort, states):
        bare = Machine(sort, states, [])
        self._kind = bare.kind
        self._states = bare.states()
        # All else that a house tells is in here, so an attempt that fails puts back this alone.
        self.story = first_story()

    @property
    def kind(self):
        """The sort."""
        return self._kind

    def states(self):
        """The list of the states."""
        return list(self._states)

    def do(self, deed):
        """Does a deed; the new moment's number."""
        check_deed(deed)
        moment = moment_behind(self, self.story.told_at(self.present()), deed)
        self.story = self.story.longer(moment, deed)
        return self.present()

    def undo(self):
        """Goes one place back in the trail; the number gone to."""
        self.story = self.story.moved(-1)
        return self.present()

    def redo(self):
        """Goes one place on in the trail; the number gone to."""
        self.story = self.story.moved(1)
        return self.present()

    def branch(self, name):
        """Makes a branch at the present moment; the house stays where it is."""
        self.story = self.story.branched(name)

    def go(self, name):
        """Goes to a branch; the number at which it stands."""
        self.story = self.story.gone(name)
        return self.present()

    def merge(self, name):
        """Merges a branch in; the number at which the house then stands."""
        number = self.story.gone(name).present_number()
        entries, moments, present = self.story.entries, self.story.moments, self.present()
        if number in all_elders(entries, present):
            return present
        was = greatest_common(entries, present, number)
        moment = merged_moment(self, moments[was], moments[present], moments[number])
        self.story = self.story.longer(moment, ("merge", number))
        return self.present()

    def present(self):
        """The number of the moment at which the house stands."""
        return self.story.present_number()

    def here(self):
        """The name of the branch in which the house stands."""
        return self.story.lines[self.story.at][0]

    def branches(self):
        """The list of the branches' names, in the order in which they were made."""
        return [line[0] for line in self.story.lines]

    def trail(self, name):
        """The list of a branch's numbers, with those that redo can reach."""
        return list(self.story.lines[self.story.line_at(name)][1])

    def mark(self, name):
        """The place in its trail at which a branch stands."""
        return self.story.lines[self.story.line_at(name)][2]

    def log(self):
        """The list of all (elder, deed), for each moment from 1 on."""
        return list(self.story.entries)

    def moment(self, number):
        """The lists of the rules, the starts and the bad positions of a moment."""
        rules, starts, bad = self.story.told_at(number)
        return (list(rules), list(starts), list(bad))

    def now(self):
        """What the present moment tells."""
        return self.moment(self.present())

    def machine_at(self, number):
        """The machine of a moment."""
        return Machine(self._kind, self._states, self.story.told_at(number)[0])

    def twin(self):
        """An equal house that goes its own way from here on."""
        other = House(self._kind, self._states)
        other.story = self.story
        return other

    def __len__(self):
        return len(self.story.moments)

    def __eq__(self, other):
        return (
            isinstance(other, House)
            and self._kind == other._kind
            and self._states == other._states
            and self.story.entries == other.story.entries
            and self.story.lines == other.story.lines
            and self.story.at == other.story.at
        )
