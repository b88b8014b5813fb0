"""Maps: machines led into lesser ones, and what leads back."""

from itertools import permutations
from math import factorial

from lossbars.errors import TooMany
from lossbars.forms import as_heap, lowest, value_fault
from lossbars.insides import is_once, limits_of
from lossbars.joints import least_ones
from lossbars.machines import Machine
from lossbars.shapes import bag_of, limit_fault, often_of, row_of
from lossbars.standing import of_state

MOST_CHOICES = 500
# What becomes of an act's word at a heaped lane, and of an act at a counted lane or heap.
HEAPED_WORDS = {"send": "put", "receive": "take", "any": "any"}
COUNTED_ACTS = {"send": ("add", 1), "put": ("add", 1), "receive": ("take", 1), "take": ("take", 1), "any": ("need", 1)}


def led_sort(sort, change):
    """The sort that a sort becomes by a map."""
    word, place = change[0], change[1]
    if place:
        at = place[0]
        return sort[:at] + (led_sort(sort[at], _within(change)),) + sort[at + 1:]
    if word == "heaped":
        return ("heap", sort[1])
    if word == "counted":
        return ("count",)
    if word == "dropped":
        return _kept_part(sort, change)
    return ("mark", tuple(list({_word_of(change, letter): True for letter in sort[1]})))


def led_value(sort, change, v):
    """The value that a value becomes by a map."""
    word, place = change[0], change[1]
    if place:
        return _led_within(sort, change, v)
    if word == "heaped":
        return as_heap(sort[1], v)
    if word == "counted":
        return len(v)
    return v[1 - change[2]] if word == "dropped" else _word_of(change, v)


def led_limit(sort, change, limit):
    """The limit of all that the led values of the values inside a limit hold."""
    found = _limit_led(sort, change, limit)
    # A limit that was made here has no fault but that it passes the bounds.
    if limit_fault(led_sort(sort, change), found) is not None:
        raise TooMany()
    return found


def led_act(sort, change, act):
    """The act that an act becomes by a map."""
    word, place = act[0], change[1]
    if word == "stay":
        return act
    if word in ("need", "set"):
        return (word, led_value(sort, change, act[1]))
    if word in ("then", "or"):
        return (word, led_act(sort, change, act[1]), led_act(sort, change, act[2]))
    return _act_led_within(sort, change, act) if place else _act_led_here(change, act)


def led_machine(machine, change):
    """The machine with the led sort and led acts."""
    sort = machine.kind
    rules = [(name, begin, led_act(sort, change, act), end) for name, begin, act, end in machine.rules()]
    return Machine(led_sort(sort, change), machine.states(), rules)


def led_starts(machine, change, starts):
    """The list of the led position limits."""
    return [(state, led_limit(machine.kind, change, limit)) for state, limit in starts]


def led_positions(machine, change, some):
    """The list of the led positions."""
    return [(state, led_value(machine.kind, change, value)) for state, value in some]


def led_run(machine, change, run):
    """The run that a run becomes by a map."""
    number, (state, value), path = run
    sort = machine.kind
    rows = [(name, led_value(sort, change, came)) for name, came in path]
    return (number, (state, led_value(sort, change, value)), tuple(rows))


def led_back(sort, change, some):
    """The least list of the values whose led values are in the up-set of some values of the led sort."""
    if sum([_choice_count(sort, change, u) for u in some]) > MOST_CHOICES:
        raise TooMany()
    found = least_ones(sort, [v for u in some for v in _choices(sort, change, u)])
    for value in found:
        if value_fault(sort, value) is not None:
            raise TooMany()
    return found


def led_bar(machine, change, bar):
    """The tuple of the positions of a bar of the led machine that are led back, state by state."""
    found = []
    for state in machine.states():
        values = led_back(machine.kind, change, of_state(bar, state))
        found.extend([(state, value) for value in values])
    return tuple(found)


def _within(change):
    """The map that a map is for the part of the sort to which its place leads first."""
    return (change[0], change[1][1:]) + change[2:]


def _kept_part(sort, change):
    """The sort of the part of a pair that is not left out."""
    return sort[2 - change[2]]


def _word_of(change, letter):
    for one, word in change[2]:
        if one == letter:
            return word
    return letter


def _side_of(change):
    """The side to which the place of a map within two sides leads."""
    return "left" if change[1][0] == 1 else "right"


def _led_within(sort, change, v):
    at, inner = change[1][0], _within(change)
    if sort[0] == "both":
        return v[:at - 1] + (led_value(sort[at], inner, v[at - 1]),) + v[at:]
    if sort[0] == "either":
        return (v[0], led_value(sort[at], inner, v[1])) if v[0] == _side_of(change) else v
    parts = [led_value(sort[1], inner, part) for part in v]
    return tuple(parts) if sort[0] == "lane" else as_heap(led_sort(sort[1], inner), parts)


def _limit_led(sort, change, limit):
    """As led_limit, however great."""
    word, place = change[0], change[1]
    if place:
        return _limit_led_within(sort, change, limit)
    if word == "heaped":
        oftens = [one for piece in limit[1] if not is_once(piece) for one in limits_of(piece)]
        return bag_of(sort[1], [piece[1] for piece in limit[1] if is_once(piece)], oftens)
    if word == "counted":
        return _count_of(sort, limit)
    return limit[2 - change[2]] if word == "dropped" else ("is", _word_of(change, limit[1]))


def _count_of(sort, limit):
    """The limit of the numbers of elements of a row or a bag."""
    if sort[0] == "heap":
        return ("all",) if limit[2] else ("to", len(limit[1]))
    onces = [piece for piece in limit[1] if is_once(piece)]
    return ("to", len(onces)) if len(onces) == len(limit[1]) else ("all",)


def _limit_led_within(sort, change, limit):
    at, inner = change[1][0], _within(change)
    if sort[0] == "both":
        return limit[:at] + (_limit_led(sort[at], inner, limit[at]),) + limit[at + 1:]
    if sort[0] == "either":
        return (limit[0], _limit_led(sort[at], inner, limit[1])) if limit[0] == _side_of(change) else limit
    led = led_sort(sort[1], inner)
    if sort[0] == "heap":
        return bag_of(led, _limits_led(sort[1], inner, limit[1]), _limits_led(sort[1], inner, limit[2]))
    pieces = []
    for piece in limit[1]:
        limits = _limits_led(sort[1], inner, limits_of(piece))
        pieces.append(("once", limits[0]) if is_once(piece) else often_of(led, limits))
    return row_of(led, pieces)


def _limits_led(sort, change, limits):
    return [_limit_led(sort, change, limit) for limit in limits]


def _act_led_within(sort, change, act):
    """The act of a sort within which the place of a map leads."""
    word, at, inner = act[0], change[1][0], _within(change)
    if sort[0] == "both":
        own = "first" if at == 1 else "second"
        return (word, led_act(sort[at], inner, act[1])) if word == own else act
    if sort[0] == "either":
        return (word, led_act(sort[at], inner, act[1])) if word == _side_of(change) else act
    if word == "any":
        return ("any", led_act(sort[1], inner, act[1]))
    return (word, led_value(sort[1], inner, act[1]))


def _act_led_here(change, act):
    """The act of the sort that is changed, where its own word says more than that values are led."""
    word = change[0]
    if word == "heaped":
        return (HEAPED_WORDS[act[0]], act[1])
    if word == "counted":
        return COUNTED_ACTS[act[0]]
    if word == "dropped":
        left_out = "first" if change[2] == 0 else "second"
        return ("stay",) if act[0] == left_out else act[1]
    one, other = _word_of(change, act[1]), _word_of(change, act[2])
    return ("stay",) if one == other else ("turn", one, other)


def _choice_count(sort, change, u):
    """The number of choices of a value of the led sort; above the most there may be a lesser one, above it, too."""
    word, place = change[0], change[1]
    if place:
        found = 1
        for inner, part in _parts_on_the_way(sort, change, u):
            found = found * _choice_count(inner, _within(change), part)
        return found
    if word == "heaped":
        return factorial(len(u))
    if word == "counted":
        return _power(len(lowest(sort[1])), u)
    if word == "dropped":
        return len(lowest(sort[1 + change[2]]))
    return len([letter for letter in sort[1] if _word_of(change, letter) == u])


def _power(number, many):
    found = 1
    for _ in range(many):
        found = min(found * number, MOST_CHOICES + 1)
    return found


def _parts_on_the_way(sort, change, u):
    """The parts of a value of the led sort to which the place of a map leads, with their sorts before."""
    at = change[1][0]
    if sort[0] == "both":
        return [(sort[at], u[at - 1])]
    if sort[0] == "either":
        return [(sort[at], u[1])] if u[0] == _side_of(change) else []
    return [(sort[1], part) for part in u]


def _choices(sort, change, u):
    """The least values whose led ones hold a value of the led sort."""
    word, place = change[0], change[1]
    if place:
        return _choices_within(sort, change, u)
    if word == "heaped":
        parts = list(u)
        return list(permutations(parts))
    if word == "counted":
        return _stores_of(sort, [lowest(sort[1])] * u)
    if word == "dropped":
        left_out = lowest(sort[1 + change[2]])
        return [(v, u) for v in left_out] if change[2] == 0 else [(u, v) for v in left_out]
    return [letter for letter in sort[1] if _word_of(change, letter) == u]


def _choices_within(sort, change, u):
    at, inner = change[1][0], _within(change)
    if sort[0] == "both":
        return [u[:at - 1] + (v,) + u[at:] for v in _choices(sort[at], inner, u[at - 1])]
    if sort[0] == "either":
        return [(u[0], v) for v in _choices(sort[at], inner, u[1])] if u[0] == _side_of(change) else [u]
    return _stores_of(sort, [_choices(sort[1], inner, part) for part in u])


def _stores_of(sort, lists):
    """The lanes or heaps that have an element of each of some lists."""
    rows = [()]
    for parts in lists:
        rows = [row + (part,) for row in rows for part in parts]
    return rows if sort[0] == "lane" else [as_heap(sort[1], row) for row in rows]
