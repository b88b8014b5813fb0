"""The errors that the package raises; each keeps its arguments as attributes."""


def unshared(value):
    """An equal value that shares no list and no dict with this one."""
    if isinstance(value, list):
        return [unshared(part) for part in value]
    if isinstance(value, tuple):
        return tuple([unshared(part) for part in value])
    if isinstance(value, dict):
        return {key: unshared(value[key]) for key in value}
    return value


class LossError(ValueError):
    """What the package raises, but for names that are missing."""


class TooMany(LossError):
    """A bound or a cap is passed."""

    def __init__(self):
        LossError.__init__(self, "too many, or too much")


class BadDeed(LossError):
    """No deed of a house."""

    def __init__(self):
        LossError.__init__(self, "no deed")


class NothingDone(LossError):
    """Nothing is there to undo or to redo."""

    def __init__(self):
        LossError.__init__(self, "nothing to go back or on to")


class BadSort(LossError):
    """No sort; path leads to the first part that is wrong."""

    def __init__(self, path):
        # Python itself keeps what an error is made of; a text in its place lets go of what was passed.
        LossError.__init__(self, f"no sort: wrong at {path!r}")
        self.path = unshared(path)


class BadValue(LossError):
    """No value of the sort; path leads to the first part that is wrong."""

    def __init__(self, path):
        LossError.__init__(self, f"no value: wrong at {path!r}")
        self.path = unshared(path)


class BadLimit(LossError):
    """No limit of the sort; path leads to the first part that is wrong."""

    def __init__(self, path):
        LossError.__init__(self, f"no limit: wrong at {path!r}")
        self.path = unshared(path)


class BadAct(LossError):
    """No act of the sort; path leads to the first part that is wrong."""

    def __init__(self, path):
        LossError.__init__(self, f"no act: wrong at {path!r}")
        self.path = unshared(path)


class BadName(LossError):
    """No name that can stand there."""

    def __init__(self, name):
        LossError.__init__(self, f"no name: {name!r}")
        self.name = unshared(name)


class TwiceTold(LossError):
    """A name that was told before."""

    def __init__(self, name):
        LossError.__init__(self, f"told twice: {name!r}")
        self.name = unshared(name)


class BadPosition(LossError):
    """No position, or no position limit, at this place."""

    def __init__(self, number):
        LossError.__init__(self, f"no position: number {number!r}")
        self.number = unshared(number)


class Clash(LossError):
    """Spots that two branches changed to different things."""

    def __init__(self, spots):
        LossError.__init__(self, f"a clash: {spots!r}")
        self.spots = unshared(spots)


class BadText(LossError):
    """No right text; place is that of the first character that is wrong."""

    def __init__(self, place):
        LossError.__init__(self, f"no right text: wrong at {place!r}")
        self.place = unshared(place)


class NameMissing(LookupError):
    """A name or a number of nothing."""


class UnknownName(NameMissing):
    """The name of nothing that is there."""

    def __init__(self, name):
        NameMissing.__init__(self, f"unknown: {name!r}")
        self.name = unshared(name)


class NoMoment(NameMissing):
    """The number of no moment."""

    def __init__(self, number):
        NameMissing.__init__(self, f"no moment: {number!r}")
        self.number = unshared(number)
