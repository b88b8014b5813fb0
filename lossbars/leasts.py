"""Up-sets, told by their least lists."""

from lossbars.forms import form_fault
from lossbars.holding import above_one
from lossbars.joints import bounded_joint, least_ones, way_count

MOST_COMMON = 60


def least(sort, some):
    """The least list that tells the same up-set as some values."""
    return least_ones(sort, some)


def is_in(sort, some, v):
    """Whether v is in the up-set of some values."""
    return above_one(sort, v, some)


def contains(sort, some, others):
    """Whether the up-set of some values contains that of others."""
    for v in others:
        if not above_one(sort, v, some):
            return False
    return True


def is_least(sort, value):
    """Whether any value is a least list of the sort."""
    if not isinstance(value, (list, tuple)):
        return False
    for part in value:
        if form_fault(sort, part) is not None:
            return False
    return list(value) == least_ones(sort, value)


def together(sort, some, others):
    """The least list of what is in one up-set or in the other."""
    return least_ones(sort, list(some) + list(others))


def both_held(sort, v, u):
    """The least list of the values that hold v and u."""
    return bounded_joint(sort, v, u)


def common(sort, some, others):
    """The least list of what is in both up-sets."""
    found = []
    for v in some:
        for u in others:
            found.extend(bounded_joint(sort, v, u))
    return least_ones(sort, found, MOST_COMMON)


def ways(sort, v, u):
    """The number of ways of two values."""
    return way_count(sort, v, u)
