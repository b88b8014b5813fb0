"""Sorts: what values may be made of."""

from lossbars.errors import BadSort

PARTS = {"mark": 2, "count": 1, "both": 3, "either": 3, "lane": 2, "heap": 2}
MOST_TUPLES = 11
MOST_DEPTH = 5
MOST_STORES = 4
MOST_COMPONENTS = 27


def check_sort(value):
    """None if the value is a sort; else BadSort with the path to what is wrong first."""
    fault = sort_fault(value)
    if fault is not None:
        raise BadSort(fault)


def components(sort):
    """The number of components of a sort."""
    check_sort(sort)
    return component_count(sort)


def is_word(value):
    """Whether a value is a string of 1 to 8 characters from a to z."""
    if not isinstance(value, str) or not 1 <= len(value) <= 8:
        return False
    return all(["a" <= letter <= "z" for letter in value])


def sort_fault(value):
    """The path to the first thing that keeps a value from being a sort; None for a sort."""
    fault = _form_fault(value)
    if fault is None and not _within_bounds(value):
        return ()
    return fault


def sorts_within(sort):
    """The sorts directly within a sort."""
    return () if sort[0] in ("mark", "count") else sort[1:]


def component_count(sort):
    """The number of components of what is known to be a sort."""
    if sort[0] == "mark":
        return len(sort[1])
    if sort[0] == "both":
        return component_count(sort[1]) * component_count(sort[2])
    if sort[0] == "either":
        return component_count(sort[1]) + component_count(sort[2])
    return 1


def _form_fault(value):
    if not _own_form(value):
        return ()
    for place, part in enumerate(sorts_within(value), start=1):
        fault = _form_fault(part)
        if fault is not None:
            return (place,) + fault
    return None


def _own_form(value):
    """Whether the form of a thing is right, the sorts within it aside."""
    if not isinstance(value, tuple) or not value or not isinstance(value[0], str):
        return False
    if value[0] not in PARTS or len(value) != PARTS[value[0]]:
        return False
    return value[0] != "mark" or _are_letters(value[1])


def _are_letters(value):
    if not isinstance(value, tuple) or not 1 <= len(value) <= 3:
        return False
    if not all([is_word(letter) for letter in value]):
        return False
    return len(set(value)) == len(value)


def _within_bounds(sort):
    """Whether a thing of right forms is small enough; its tuples go first, for what has few is quickly gone through."""
    if _tuple_count(sort) > MOST_TUPLES or _depth(sort) > MOST_DEPTH or _store_count(sort) > MOST_STORES:
        return False
    return _most_components(sort) <= MOST_COMPONENTS


def _tuple_count(sort):
    return 1 + sum([_tuple_count(part) for part in sorts_within(sort)])


def _depth(sort):
    return 1 + max([_depth(part) for part in sorts_within(sort)], default=0)


def _store_count(sort):
    own = 1 if sort[0] in ("lane", "heap") else 0
    return own + sum([_store_count(part) for part in sorts_within(sort)])


def _most_components(sort):
    """The greatest number of components of a sort and of those within it."""
    return max([component_count(sort)] + [_most_components(part) for part in sorts_within(sort)])
