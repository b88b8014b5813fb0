"""The cheapest runs, and papers that nothing is cheaper."""

from lossbars.backs import Backs, Search
from lossbars.bars import first_open
from lossbars.rounds import decided
from lossbars.standing import (
    check_position_limits,
    check_positions,
    first_met,
    is_least_tuple,
    position_above_one,
    widened,
)


def price_of(machine, prices, path):
    """What a path costs."""
    by_name = {rule[0]: price for rule, price in zip(machine.rules(), prices)}
    return sum([by_name[name] for name, _ in path])


def cheapest(machine, prices, starts, bad, *, positions=24, rounds=16):
    """Either (price, run), the run one of those that cost the least, or ("bar", bar)."""
    check_position_limits(machine, starts)
    check_positions(machine, bad)
    backs = Backs(machine, positions)
    answer = decided(machine, Search(machine, backs, bad), starts, positions, rounds)
    if answer[0] == "bar":
        return answer
    costs = Costs(machine, prices, Search(machine, backs, bad), positions)
    run = None
    while run is None:
        costs.go_on()
        run = costs.run_from(starts)
    return (costs.price(), run)


def dear(machine, prices, bad, price, *, positions=24):
    """The tuple of the least lists of what has a path to something bad that costs at most 0 to price - 1."""
    check_positions(machine, bad)
    costs = Costs(machine, prices, Search(machine, Backs(machine, positions), bad), positions)
    found = []
    for _ in range(price):
        costs.go_on()
        found.append(costs.listed())
    return tuple(found)


def judge_dear(machine, prices, starts, bad, price, value):
    """None if any value tells that no run from starts to bad costs less than price; else its first fault."""
    check_position_limits(machine, starts)
    check_positions(machine, bad)
    if not _are_lists(machine, price, value):
        return ("form",)
    backs = Backs(machine)
    for p in range(price):
        fault = _list_fault(machine, prices, backs, bad, value, p)
        if fault is not None:
            return fault
    meeting = first_met(machine, starts, value[-1]) if value else None
    return None if meeting is None else ("start", meeting[0])


class Costs:
    """The least lists of what has a path to something bad that costs at most a price, price by price."""

    def __init__(self, machine, prices, search, most):
        self._machine = machine
        self._prices = list(prices)
        self._search = search
        self._most = most
        self._listed = []
        # Item p: what costs p and nothing less.
        self._news = []

    def go_on(self):
        """Makes the list of the next price, 0 at first."""
        price = len(self._news)
        came = [] if self._news else self._search.bad()
        for number, own in enumerate(self._prices):
            if own <= price:
                came.extend(self._search.back_by(number, self._news[price - own]))
        self._listed, new = widened(self._machine, self._listed, came, self._most)
        self._news.append(new)

    def price(self):
        """The price of the last list."""
        return len(self._news) - 1

    def listed(self):
        """The last list, as a tuple."""
        return tuple(self._listed)

    def run_from(self, starts):
        """A run from a start that costs the price of the last list; None if there is none."""
        return self._search.run_from(starts, self._news[-1])


def _are_lists(machine, price, value):
    if not isinstance(value, tuple) or len(value) != price:
        return False
    for part in value:
        if not is_least_tuple(machine, part):
            return False
    return True


def _list_fault(machine, prices, backs, bad, lists, p):
    """The first fault of list p: a bad position, or what is back of a lesser list, that holds none of it."""
    for k, position in enumerate(bad):
        if not position_above_one(machine, position, lists[p]):
            return ("bad", p, k)
    for number, rule in enumerate(machine.rules()):
        price = prices[number]
        if price <= p:
            k = first_open(machine, backs, number, lists[p - price], lists[p])
            if k is not None:
                return ("back", p, rule[0], k)
    return None
