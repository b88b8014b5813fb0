"""Lists of limits without those that lie within others, each two pieces looked at once where the lists are long."""

from lossbars.holding import matched
from lossbars.insides import is_once, limits_in_order, piece_within, within, within_one

# Up to so many limits it is quicker to look at them as they are.
FEW = 4
# From so many codes on it is quicker to look at bits first.
MANY = 60


class PieceTable:
    """Numbers for the pieces of rows, or for the onces and oftens of bags, of one sort.

    A coded row is the tuple of its pieces' numbers, a coded bag the pair of its onces' numbers and its often's."""

    def __init__(self, sort):
        self._sort = sort
        self._numbers = {}
        self._pieces = []
        self._once = []
        self._known = {}

    def number_of(self, piece):
        """The number of a piece."""
        # Limits may be nested deeper than a key may be, so their text stands for them.
        text = repr(piece)
        if text not in self._numbers:
            self._numbers[text] = len(self._pieces)
            self._pieces.append(piece)
            self._once.append(is_once(piece))
        return self._numbers[text]

    def piece(self, number):
        """The piece of a number."""
        return self._pieces[number]

    def coded(self, limit):
        """A row or bag, coded."""
        if self._sort[0] == "lane":
            return tuple([self.number_of(piece) for piece in limit[1]])
        return (tuple([self.number_of(("once", once)) for once in limit[1]]), self.number_of(("often", limit[2])))

    def told(self, code):
        """The row or bag that is coded so."""
        if self._sort[0] == "lane":
            return ("row", tuple([self._pieces[number] for number in code]))
        onces = limits_in_order(self._sort[1], [self._pieces[number][1] for number in code[0]])
        return ("bag", tuple(onces), self._pieces[code[1]][1])

    def lies(self, one, two):
        """Whether a piece lies within another one."""
        if (one, two) not in self._known:
            self._known[(one, two)] = piece_within(self._sort[1], self._pieces[one], self._pieces[two])
        return self._known[(one, two)]

    def code_lies(self, one, two):
        """Whether a coded row or bag lies within another one."""
        return self._row_lies(one, two) if self._sort[0] == "lane" else self._bag_lies(one, two)

    def _row_lies(self, row, other):
        at, end, known, once = 0, len(row), self._known, self._once
        for piece in other:
            while at < end:
                pair = (row[at], piece)
                # What is known is read straight from the dict: where limits are many this is done very often.
                if not (known[pair] if pair in known else self.lies(row[at], piece)):
                    break
                at += 1
                if once[piece]:
                    break
            if at == end:
                return True
        return at == end

    def _bag_lies(self, bag, other):
        if not self.lies(bag[1], other[1]):
            return False
        rest, spots = [], list(other[0])
        for once in bag[0]:
            # If there is a way at all, there is one by which equal ones go together.
            if once in spots:
                spots.remove(once)
            elif not self.lies(once, other[1]):
                rest.append(once)
        if not rest or len(rest) > len(spots):
            return not rest
        return matched(len(rest), len(spots), lambda k, spot: self.lies(rest[k], spots[spot]))

    def put_ahead(self, number, row):
        """A coded row with one more piece ahead, which may swallow others or be swallowed."""
        if row and not self._once[row[0]] and self.lies(number, row[0]):
            return row
        at = 0
        while not self._once[number] and at < len(row) and self.lies(row[at], number):
            at += 1
        return (number,) + row[at:]

    def top_codes(self, codes):
        """Those of some codes that lie within no other one, each once."""
        kept = []
        for own, taken, code in self._marked(list({code: True for code in codes})):
            if not self._lies_in_one(own, code, kept):
                kept = [other for other in kept if other[0] & ~taken or not self.code_lies(other[2], code)]
                kept.append((own, taken, code))
        return [code for _, _, code in kept]

    def _lies_in_one(self, own, code, others):
        for other in others:
            if not own & ~other[1] and self.code_lies(code, other[2]):
                return True
        return False

    def _marked(self, codes):
        """Codes behind two numbers whose bits tell pieces: its own ones, and all that lie within one of these.

        What lies within another one has no piece of its own that the other one does not take, so most of many codes
        need not be gone through piece by piece. For few codes the bits are not worth their making."""
        if len(codes) < MANY:
            return [(0, 0, code) for code in codes]
        numbers = sorted({number for code in codes for number in self._numbers_in(code)})
        within_each = {}
        for other in numbers:
            within_each[other] = sum([1 << number for number in numbers if self.lies(number, other)])
        found = []
        for code in codes:
            own, taken = 0, 0
            for number in self._numbers_in(code):
                own, taken = own | 1 << number, taken | within_each[number]
            found.append((own, taken, code))
        return found

    def _numbers_in(self, code):
        return code if self._sort[0] == "lane" else code[0] + (code[1],)


def topmost(sort, limits):
    """The list of those of some limits that lie within no other one, each once, ascending."""
    if sort[0] in ("lane", "heap") and len(limits) > FEW:
        table = PieceTable(sort)
        kept = [table.told(code) for code in table.top_codes([table.coded(limit) for limit in limits])]
        return limits_in_order(sort, kept)
    kept = []
    for limit in limits:
        if not within_one(sort, limit, kept):
            kept = [other for other in kept if not within(sort, other, limit)]
            kept.append(limit)
    return limits_in_order(sort, kept)
