"""Making bounds and waits by the rules, with the row of a paper for each."""

from tidewaiter.laying import bases, bounds, heard_spans
from tidewaiter.rules import MOST, SINGLE_RULES, UNTIL, heard_begins, late_waits


class Making:
    """The least amounts told or made so far, and the rows that make them.

    made goes from a fact less its amount to the pair of its amount and the place of its row, rows is the list of all
    rows so far, and fault the place of the row by which a base comes behind itself, once there is one.
    """

    def __init__(self, web, facts):
        self.web = web
        self.names = bases(web)
        self.ends = [span[0] for span in heard_spans(web)]
        self.heard = heard_begins(web)
        # A bound (x, x, 0) has no row in a paper; nothing less is ever made with it, so no row needs its place.
        self.made = {fact[:3]: (fact[3], None) for fact in facts}
        self.rows = []
        self.fault = None

    def offer(self, kind, x, y, amount, row):
        """Takes a fact in where it is less than what was made so far, and none once there is a fault."""
        held = self.made.get((kind, x, y))
        if self.fault is not None or (held is not None and held[0] <= amount):
            return
        place = len(self.rows)
        self.made[(kind, x, y)] = (amount, place)
        self.rows.append(row)
        if kind == MOST and x == y and amount < 0:
            self.fault = place

    def tell(self):
        """Takes in the told bounds and the late waits."""
        for x, y, amount in bounds(self.web):
            self.offer(MOST, x, y, amount, ("told", x, y, amount))
        for kind, end, x, amount in late_waits(self.web):
            self.offer(kind, end, x, amount, ("late", end))

    def go_round(self):
        """Makes by each rule what it can make once."""
        for y in self.names:
            for x in self.names:
                self.go_along(x, y)
        for end in self.ends:
            for y in self.names:
                self.go_wait(end, y)
        for word in SINGLE_RULES:
            self.go_single(word)

    def go_along(self, x, y):
        """The bounds from x that go along y."""
        one = self.made.get((MOST, x, y))
        if one is None:
            return
        for z in self.names:
            other = self.made.get((MOST, y, z))
            if other is not None:
                self.offer(MOST, x, z, one[0] + other[0], ("along", one[1], other[1]))

    def go_wait(self, end, y):
        """The waits of all bases by the wait of y."""
        other = self.made.get((UNTIL, end, y))
        if other is None:
            return
        for x in self.names:
            one = self.made.get((MOST, x, y))
            if one is not None:
                self.offer(UNTIL, end, x, one[0] + other[0], ("wait", one[1], other[1]))

    def go_single(self, word):
        """What a rule makes of each fact by itself."""
        rule = SINGLE_RULES[word]
        for kind, x, y in list(self.made):
            amount, place = self.made[(kind, x, y)]
            fact = rule(self.heard, (kind, x, y, amount))
            if fact is not None:
                self.offer(fact[0], fact[1], fact[2], fact[3], (word, place))
