"""What several tests use: errors with what they keep, things of wrong kinds, plain readings of the document."""

import copy
import itertools

# Things that stand where something else is asked; none of them is a sort, a value, a limit or an act.
ODD = [
    True, False, None, -1, 100, 10 ** 39, "", "a b", "mark", "?" * 50, [], {}, {"count": 1}, [["count"]],
    ("no",), ("count", ()), (True,), ((),), (["count"],), ({},), [("count",)], ("left",), ("row",),
]


def kept(error, call, *arguments, **caps):
    """What the error keeps that a call raises: its attributes' values, by name; an assertion if it raises none."""
    try:
        found = call(*arguments, **caps)
    except error as raised:
        if raised.__class__ is not error:
            raise AssertionError(f"{raised.__class__.__name__} for {error.__name__}")
        return dict(vars(raised))
    raise AssertionError(f"{error.__name__} is not raised, but {found!r} is returned")


def path_of(error, call, *arguments, **caps):
    """The path that the error keeps that a call raises."""
    found = kept(error, call, *arguments, **caps)
    if list(found) != ["path"] or not isinstance(found["path"], tuple):
        raise AssertionError(f"no path alone: {found!r}")
    return found["path"]


def untouched(call, *arguments, **caps):
    """What a call returns, behind a look at whether its arguments are as they were, and what is returned is new."""
    before = copy.deepcopy(arguments)
    found = call(*arguments, **caps)
    if shown(arguments) != shown(before):
        raise AssertionError(f"{before!r} became {arguments!r}")
    if isinstance(found, list):
        wanted = repr(found)
        for argument in arguments:
            if found is argument:
                raise AssertionError("what is returned was passed")
        found.append("more")
        again = call(*arguments, **caps)
        if repr(again) != wanted:
            raise AssertionError(f"{again!r} for {wanted}")
        return again
    return found


def shown(value):
    """A value as a text, with what each machine and each house in it tells."""
    if isinstance(value, (list, tuple)):
        return f"{value.__class__.__name__}({', '.join(shown(part) for part in value)})"
    if isinstance(value, dict):
        return f"dict({', '.join(shown(pair) for pair in value.items())})"
    if hasattr(value, "twin"):
        trails = [(name, value.trail(name), value.mark(name)) for name in value.branches()]
        return shown((value.kind, value.states(), value.log(), trails, value.here(), value.now()))
    return shown((value.kind, value.states(), value.rules())) if hasattr(value, "rules") else repr(value)


def side(sort, word):
    return sort[1] if word == "left" else sort[2]


def key(sort, v):
    """The order of values as [1.2] tells it."""
    word = sort[0]
    if word == "mark":
        return sort[1].index(v)
    if word == "count":
        return v
    if word == "both":
        return (key(sort[1], v[0]), key(sort[2], v[1]))
    if word == "either":
        return (("left", "right").index(v[0]), key(side(sort, v[0]), v[1]))
    return tuple(key(sort[1], part) for part in v)


def above(sort, v, u):
    """Whether v holds u, as [1.3] tells it, by trying all places."""
    word = sort[0]
    if word == "mark":
        return v == u
    if word == "count":
        return v >= u
    if word == "both":
        return above(sort[1], v[0], u[0]) and above(sort[2], v[1], u[1])
    if word == "either":
        return v[0] == u[0] and above(side(sort, v[0]), v[1], u[1])
    return first_places(sort, v, u) is not None


def first_places(sort, v, u):
    rows = itertools.combinations if sort[0] == "lane" else itertools.permutations
    for row in rows(range(len(v)), len(u)):
        if all(above(sort[1], v[place], part) for place, part in zip(row, u)):
            return row
    return None


def least(sort, some):
    """The least list, as [2.1] tells it."""
    each = list(dict.fromkeys(some))
    rest = [v for v in each if not any(u != v and above(sort, v, u) for u in each)]
    return sorted(rest, key=lambda v: key(sort, v))


def least_values_of(sort):
    """The values that hold no other one: all of them stand among the small ones."""
    return least(sort, universe(sort, 0, 0))


def universe(sort, number, length):
    """All values with numbers to number and at most length elements, one less within other lanes and heaps."""
    word = sort[0]
    if word == "mark":
        return list(sort[1])
    if word == "count":
        return list(range(number + 1))
    if word == "both":
        seconds = universe(sort[2], number, length)
        return [(v, w) for v in universe(sort[1], number, length) for w in seconds]
    if word == "either":
        return [(word, v) for word in ("left", "right") for v in universe(side(sort, word), number, length)]
    inner = [] if length < 1 else sorted(universe(sort[1], number, length - 1), key=lambda v: key(sort[1], v))
    if word == "lane":
        return [row for many in range(length + 1) for row in itertools.product(inner, repeat=many)]
    return [row for many in range(length + 1) for row in itertools.combinations_with_replacement(inner, many)]


def inside(sort, limit, v):
    """Whether v lies inside a limit in some form, as [3.1] tells it, by trying all cuts and places."""
    word = sort[0]
    if word == "mark":
        return limit[1] == v
    if word == "count":
        return limit == ("all",) or v <= limit[1]
    if word == "both":
        return inside(sort[1], limit[1], v[0]) and inside(sort[2], limit[2], v[1])
    if word == "either":
        return limit[0] == v[0] and inside(side(sort, v[0]), limit[1], v[1])
    if word == "lane":
        return inside_row(sort[1], limit[1], v)
    rest = [part for part in v if not any(inside(sort[1], each, part) for each in limit[2])]
    rows = itertools.permutations(limit[1], len(rest))
    return any(all(inside(sort[1], once, part) for once, part in zip(row, rest)) for row in rows)


def inside_row(inner, pieces, v):
    if not pieces:
        return not v
    if inside_row(inner, pieces[1:], v):
        return True
    if not v:
        return False
    word, told = pieces[0]
    if word == "once":
        return inside(inner, told, v[0]) and inside_row(inner, pieces[1:], v[1:])
    return any(inside(inner, each, v[0]) for each in told) and inside_row(inner, pieces, v[1:])


def some_sort(random, tuples, stores):
    """A sort of at most so many tuples within one another, and so many lanes and heaps."""
    while True:
        sort = _some_sort(random, tuples, stores)
        if tuple_count(sort) <= 11 and component_count(sort) <= 27:
            return sort


def tuple_count(sort):
    return 1 if sort[0] == "mark" else 1 + sum(tuple_count(part) for part in sort[1:])


def component_count(sort):
    """The greatest number of components of a sort and of those within it."""
    if sort[0] == "mark":
        return len(sort[1])
    inner = [component_count(part) for part in sort[1:]]
    if sort[0] == "both":
        return inner[0] * inner[1]
    return sum(inner) if sort[0] == "either" else max([1] + inner)


def _some_sort(random, tuples, stores):
    words = ["mark", "count"]
    if tuples > 1:
        words += ["both", "either"] + (["lane", "heap"] * 2 if stores else [])
    word = random.choice(words)
    if word == "mark":
        return ("mark", tuple(random.sample(["a", "b", "c", "ab"], random.randint(1, 3))))
    if word == "count":
        return ("count",)
    if word in ("both", "either"):
        halves = (stores // 2, stores - stores // 2)
        return (word,) + tuple(_some_sort(random, tuples - 1, half) for half in halves)
    return (word, _some_sort(random, tuples - 1, stores - 1))


def some_value(random, sort, number, length):
    word = sort[0]
    if word == "mark":
        return random.choice(sort[1])
    if word == "count":
        return random.randint(0, number)
    if word == "both":
        return (some_value(random, sort[1], number, length), some_value(random, sort[2], number, length))
    if word == "either":
        which = random.choice(["left", "right"])
        return (which, some_value(random, side(sort, which), number, length))
    parts = [some_value(random, sort[1], number, max(1, length - 1)) for _ in range(random.randint(0, length))]
    return tuple(parts if word == "lane" else sorted(parts, key=lambda v: key(sort[1], v)))


def some_limit(random, sort, number, length):
    """A limit in some form, with numbers to number, and rows and bags of at most length pieces, onces, oftens."""
    word = sort[0]
    if word == "mark":
        return ("is", random.choice(sort[1]))
    if word == "count":
        return ("all",) if random.random() < 0.25 else ("to", random.randint(0, number))
    if word == "both":
        return ("pair", some_limit(random, sort[1], number, length), some_limit(random, sort[2], number, length))
    if word == "either":
        which = random.choice(["left", "right"])
        return (which, some_limit(random, side(sort, which), number, length))

    def some(most):
        return tuple(some_limit(random, sort[1], number, max(1, length - 1)) for _ in range(random.randint(0, most)))

    if word == "heap":
        return ("bag", some(length), some(2))
    onces = [("once", limit) for limit in some(length)]
    return ("row", tuple(random.choice([once, ("often", some(2))]) for once in onces))
