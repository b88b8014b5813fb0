"""Growing: what starts come to, round by round, until something bad is met or a shield stands."""

from lossbars.errors import TooMany
from lossbars.layers import forths_of
from lossbars.standing import check_position_limits, check_positions, first_met, joined_of, of_state


def grown(machine, starts, bad, *, limits=24, rounds=16):
    """Either ("run", k), a run of k rows leads to bad and none of fewer, or ("shield", shield), the least one."""
    check_position_limits(machine, starts)
    check_positions(machine, bad)
    told, came = [], list(starts)
    for k in range(rounds + 1):
        # Something lies inside the new list exactly if it lay inside the last one or lies inside what came.
        if first_met(machine, came, bad) is not None:
            return ("run", k)
        longer = joined_of(machine, told + came)
        _check_many(machine, longer, limits)
        new = [limit for limit in longer if limit not in told]
        if k > 0 and not new:
            return ("shield", longer)
        told = longer
        if k < rounds:
            came = forths_of(machine, new)
    raise TooMany()


def _check_many(machine, listed, most):
    for state in machine.states():
        if len(of_state(listed, state)) > most:
            raise TooMany()
