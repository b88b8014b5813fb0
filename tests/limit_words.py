"""Sorts and short words for limits that several tests use."""

COUNT = ("count",)
AB = ("mark", ("a", "b"))
ABC = ("mark", ("c", "a", "b"))
PAIR = ("both", COUNT, COUNT)
EITHER = ("either", COUNT, AB)
LANE, HEAP = ("lane", ABC), ("heap", ABC)
ALL = ("all",)
A, B, C = ("is", "a"), ("is", "b"), ("is", "c")


def to(number):
    return ("to", number)


def once(limit):
    return ("once", limit)


def often(*limits):
    return ("often", limits)


def row(*pieces):
    return ("row", pieces)


def bag(onces, more):
    return ("bag", tuple(onces), tuple(more))


def pair(one, two):
    return ("pair", one, two)
