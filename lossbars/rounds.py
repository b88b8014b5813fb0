"""Rounds: what comes to something bad by so many rows, and whether starts do."""

from lossbars.backs import Backs, Search
from lossbars.errors import TooMany
from lossbars.standing import check_position_limits, check_positions, lies_in, widened


def rounds_to(machine, bad, k, *, positions=24):
    """The list of the least lists of what has a path of at most 0 to k rows to something bad."""
    check_positions(machine, bad)
    search = Search(machine, Backs(machine, positions), bad)
    listed, new = widened(machine, [], search.bad(), positions)
    found = [list(listed)]
    for _ in range(k):
        listed, new = widened(machine, listed, search.back_from(new), positions)
        found.append(list(listed))
    return found


def decide(machine, starts, bad, *, positions=24, rounds=16):
    """Either ("run", run), from a start to something bad, or ("bar", bar), the least bar."""
    check_position_limits(machine, starts)
    check_positions(machine, bad)
    return decided(machine, Search(machine, Backs(machine, positions), bad), starts, positions, rounds)


def met(machine, starts, some):
    """The list of all (number, position) of a start and a position of some that lies inside it."""
    check_position_limits(machine, starts)
    check_positions(machine, some)
    return [
        (number, position)
        for number, start in enumerate(starts)
        for position in some
        if lies_in(machine, start, position)
    ]


def decided(machine, search, starts, positions, rounds):
    """As decide, for a search that has not begun."""
    listed, came = [], search.bad()
    for k in range(rounds + 1):
        # A start meets what is least of what came exactly if it meets what came, and that need not be counted.
        run = search.run_from(starts, came)
        if run is not None:
            return ("run", run)
        listed, new = widened(machine, listed, came, positions)
        if k > 0 and not new:
            return ("bar", tuple(listed))
        if k < rounds:
            came = search.back_from(new)
    raise TooMany()
