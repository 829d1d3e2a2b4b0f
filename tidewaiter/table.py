"""Tables of waits: what shows a yes."""

from tidewaiter.checks import is_one_of
from tidewaiter.errors import NoPoint, NoSpan
from tidewaiter.laying import bases, heard_spans
from tidewaiter.making import Making
from tidewaiter.rules import MOST, UNTIL


class Table:
    """A bound for each pair of bases, and a wait for each heard span and each base."""

    def __init__(self, betweens, untils):
        self.bound_amounts = {pair: betweens[pair] for pair in betweens}
        self.wait_amounts = {pair: untils[pair] for pair in untils}
        names = [name for pair in betweens for name in pair] + [pair[1] for pair in untils]
        self.base_names = {name: True for name in names}
        self.span_names = {pair[0]: True for pair in untils}

    def between(self, x, y):
        """How many ticks y comes behind x at most."""
        need_base(self, x)
        need_base(self, y)
        return self.bound_amounts[(x, y)]

    def until(self, end, x):
        """The amount of the wait of x for an end."""
        if not is_one_of(end, self.span_names):
            raise NoSpan(end)
        need_base(self, x)
        return self.wait_amounts[(end, x)]

    def betweens(self):
        """The bounds, as a dict from pairs (x, y) of bases to amounts."""
        return {pair: self.bound_amounts[pair] for pair in self.bound_amounts}

    def untils(self):
        """The waits, as a dict from pairs (end, x) to amounts."""
        return {pair: self.wait_amounts[pair] for pair in self.wait_amounts}

    def __eq__(self, other):
        return (isinstance(other, Table) and self.bound_amounts == other.bound_amounts
                and self.wait_amounts == other.wait_amounts)

    def __len__(self):
        return len([*self.bound_amounts, *self.wait_amounts])

    def __repr__(self):
        return f"Table({len(self.bound_amounts)} bounds, {len(self.wait_amounts)} waits)"


def need_base(table, name):
    """Refuses what is no base of the table."""
    if not is_one_of(name, table.base_names):
        raise NoPoint(name)


def table_fits(web, table):
    """Whether a table is a paper of a yes for this web.

    No ring is looked for: by sure and along a base of a ring that points round comes behind itself, and going along
    that twice makes something less, so that the rules find it.
    """
    if not has_just_the_pairs(web, table):
        return False
    if any([table.between(base, base) > 0 for base in bases(web)]):
        return False
    making = Making(web, table_facts(table))
    making.tell()
    making.go_round()
    return len(making.rows) == 0


def has_just_the_pairs(web, table):
    """Whether a table has one bound for each pair of bases, one wait for each heard span and base, and no others."""
    names = bases(web)
    ends = [span[0] for span in heard_spans(web)]
    return (set(table.betweens()) == {(x, y) for x in names for y in names}
            and set(table.untils()) == {(end, x) for end in ends for x in names})


def table_facts(table):
    """The bounds and waits of a table, as the rules take them."""
    betweens = table.betweens()
    untils = table.untils()
    return ([(MOST, x, y, betweens[(x, y)]) for x, y in betweens]
            + [(UNTIL, end, x, untils[(end, x)]) for end, x in untils])
