"""What two rows have in common, piece by piece; rows are coded by a table of pieces."""

from lossbars.errors import TooMany
from lossbars.insides import is_once

# From so many times the codes on that may be told it is looked once whether those that are told are surely too many.
FAR = 8
# From so many codes on the search for those that one lies within is given up.
MANY = 40


class Crossing:
    """Two coded rows, and by the numbers of a piece of each the numbers of the pieces that both have in common.

    A spot (i, k) stands for piece i of the one, piece k of the other, and what is behind them."""

    def __init__(self, table, one, two, heads):
        self._table = table
        self._one = one
        self._two = two
        self._heads = heads

    def codes(self, most=None):
        """The codes of the limits in common; where they are more than most, perhaps TooMany."""
        cells, looked = self._edges(), most is None
        for spot in self._spots():
            cells[spot] = self._table.top_codes(self._found(cells, spot))
            if not looked and len(cells[spot]) > FAR * most:
                looked = True
                if self._surely_more(most):
                    raise TooMany()
        return cells[(0, 0)]

    def is_edge(self, spot):
        """Whether one of the rows has ended."""
        return spot[0] == len(self._one) or spot[1] == len(self._two)

    def heads(self, spot):
        """The pieces that may stand first at a spot, each with a spot behind it."""
        i, k = spot
        one, two = self._one[i], self._two[k]
        onces = (is_once(self._table.piece(one)), is_once(self._table.piece(two)))
        # A once is used up behind its element, an often is there still, so that one of two oftens goes next.
        behind = [(i + 1, k), (i, k + 1)]
        if onces[0] and onces[1]:
            behind = [(i + 1, k + 1)]
        elif onces[0]:
            behind = [(i + 1, k)]
        elif onces[1]:
            behind = [(i, k + 1)]
        return [(head, after) for head in self._heads[(one, two)] for after in behind]

    def lies_behind(self, spot, code):
        """Whether a coded row lies within both rows from a spot on."""
        return self._table.code_lies(code, self._one[spot[0]:]) and self._table.code_lies(code, self._two[spot[1]:])

    def taken(self, head, code, at):
        """The place in a coded row behind all of its pieces from one on that a piece takes."""
        once = is_once(self._table.piece(head))
        while at < len(code) and self._table.lies(code[at], head):
            at += 1
            if once:
                break
        return at

    def topmost(self, head_rows, others):
        """Those of some codes, the first ones told by a piece and what is behind it, that lie within no other one."""
        return self._table.top_codes([self._table.put_ahead(head, row) for head, row in head_rows] + others)

    def _edges(self):
        found = {(i, len(self._two)): [()] for i in range(len(self._one) + 1)}
        for k in range(len(self._two)):
            found[(len(self._one), k)] = [()]
        return found

    def _spots(self):
        """All spots that are no edges, each behind those that it is told by."""
        return [(i, k) for i in reversed(range(len(self._one))) for k in reversed(range(len(self._two)))]

    def _found(self, cells, spot):
        """The codes of limits in common from a spot on, among them all that lie within no other one."""
        i, k = spot
        pieces, others = self._one[i:], self._two[k:]
        if self._table.code_lies(pieces, others):
            return [pieces]
        if self._table.code_lies(others, pieces):
            return [others]
        found = [self._table.put_ahead(head, row) for head, after in self.heads(spot) for row in cells[after]]
        return found + cells[(i + 1, k)] + cells[(i, k + 1)]

    def _surely_more(self, most):
        """Whether more than most codes are found that lie within no other one, where the longest ones are gone on with.

        Each code that is found this way is right, but may lie within others; so these are looked for."""
        cells, found = self._edges(), []
        for spot in self._spots():
            found = self._found(cells, spot)
            each = sorted(list({code: True for code in found}), key=lambda code: -len(code))
            cells[spot] = self._table.top_codes(each[:4 * most])[:2 * most]
        seen = {}
        for code in self._table.top_codes(found):
            for row in RowsAbove(self, code).codes():
                seen[row] = True
            if len(seen) > most:
                return True
        return False


class RowsAbove:
    """The limits that two rows have in common and that one such limit lies within."""

    def __init__(self, crossing, told):
        self._crossing = crossing
        self._told = told
        self._fitting = {}
        self._known = {}
        self._given_up = False

    def codes(self):
        """The codes of those that lie within no other one; none where they are too many to be looked for."""
        found = self._rows((0, 0), 0)
        return [] if self._given_up else found

    def _rows(self, spot, at):
        """The codes from a spot on that what is told, from a place on, lies within."""
        if self._given_up or not self._fits(spot, at):
            return []
        if self._crossing.is_edge(spot):
            return [()]
        if (spot, at) not in self._known:
            head_rows = []
            for head, after in self._crossing.heads(spot):
                rows = self._rows(after, self._crossing.taken(head, self._told, at))
                head_rows.extend([(head, row) for row in rows])
            others = self._rows((spot[0] + 1, spot[1]), at) + self._rows((spot[0], spot[1] + 1), at)
            found = self._crossing.topmost(head_rows, others)
            if len(found) > MANY:
                self._given_up = True
            self._known[(spot, at)] = found
        return self._known[(spot, at)]

    def _fits(self, spot, at):
        """Whether what is told, from a place on, lies within some limit in common from a spot on."""
        if at == len(self._told):
            return True
        if self._crossing.is_edge(spot):
            return False
        if (spot, at) not in self._fitting:
            self._fitting[(spot, at)] = self._fits_by_some(spot, at)
        return self._fitting[(spot, at)]

    def _fits_by_some(self, spot, at):
        if not self._crossing.lies_behind(spot, self._told[at:]):
            return False
        for head, after in self._crossing.heads(spot):
            if self._fits(after, self._crossing.taken(head, self._told, at)):
                return True
        return self._fits((spot[0] + 1, spot[1]), at) or self._fits((spot[0], spot[1] + 1), at)
