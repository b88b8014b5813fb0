"""The least bar by taking positions one by one, with a log."""

from lossbars.backs import Backs, Search
from lossbars.errors import TooMany
from lossbars.standing import check_position_limits, check_positions, is_least_tuple, is_right_position, widened


def one_by_one(machine, starts, bad, way, *, taken=60):
    """The answer, ("run", run) or ("bar", bar), and the log of what was taken, the first or the last one each time."""
    check_position_limits(machine, starts)
    check_positions(machine, bad)
    search = Search(machine, Backs(machine), bad)
    listed, log = search.bad(), []
    new = listed
    while True:
        # The other ones of the list were looked at before.
        run = search.run_from(starts, new)
        if run is not None:
            return (("run", run), tuple(log))
        done = [row[0] for row in log]
        left = [position for position in listed if position not in done]
        if not left:
            return (("bar", tuple(listed)), tuple(log))
        if len(log) >= taken:
            raise TooMany()
        position = left[0] if way == "first" else left[-1]
        listed, new = _take(machine, search, listed, position)
        log.append((position, tuple(new)))


def judge_log(machine, bad, value):
    """None if any value is a log that may come about; else its first fault."""
    check_positions(machine, bad)
    if not isinstance(value, tuple):
        return ("form",)
    search = Search(machine, Backs(machine), bad)
    listed, done = search.bad(), []
    for k, row in enumerate(value):
        if not _is_row(machine, row) or row[0] not in listed or row[0] in done:
            return ("row", k)
        listed, came = _take(machine, search, listed, row[0])
        if row[1] != tuple(came):
            return ("row", k)
        done.append(row[0])
    return None


def list_behind(machine, bad, log):
    """The list of positions behind a log."""
    check_positions(machine, bad)
    search = Search(machine, Backs(machine), bad)
    listed = search.bad()
    for position, _ in log:
        listed, _ = _take(machine, search, listed, position)
    return listed


def _take(machine, search, listed, position):
    """The list behind the taking of a position, and what of it is new."""
    return widened(machine, listed, search.back_from([position]))


def _is_row(machine, row):
    if not isinstance(row, tuple) or len(row) != 2:
        return False
    return is_right_position(machine, row[0]) and is_least_tuple(machine, row[1])
