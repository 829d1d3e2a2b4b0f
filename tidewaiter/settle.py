"""Settling: whether a web is steered, with the least table or a paper of a no."""

from tidewaiter.errors import Unsteered
from tidewaiter.laying import bases
from tidewaiter.making import Making
from tidewaiter.rules import MOST, UNTIL
from tidewaiter.table import Table


def settled(web):
    """("yes", the least table) or ("no", a paper)."""
    making = Making(web, [(MOST, base, base, 0) for base in bases(web)])
    making.tell()
    make_all(making)
    if making.fault is None:
        return ("yes", table_of(making))
    return ("no", paper_of(making.rows, making.fault))


def steered(web):
    """Whether some keeper keeps the web in every weather."""
    return settled(web)[0] == "yes"


def least_table(web):
    """The least table of a web; refused where it isn't steered."""
    answer, proof = settled(web)
    if answer == "no":
        raise Unsteered()
    return proof


def make_all(making):
    """Goes round all rules until nothing becomes less, or a base must come behind itself.

    Each base has a told way to each other one. So where an amount is made less and less without end,
    some base at last comes behind itself, and this ends in any case.
    """
    count = -1
    while count < len(making.rows) and making.fault is None:
        count = len(making.rows)
        making.go_round()


def table_of(making):
    """The table of all that was made."""
    made = making.made
    betweens = {(x, y): made[(kind, x, y)][0] for kind, x, y in made if kind == MOST}
    untils = {(end, x): made[(kind, end, x)][0] for kind, end, x in made if kind == UNTIL}
    return Table(betweens, untils)


def paper_of(rows, fault):
    """A paper with the row fault as its ring, and of the other rows those alone by which it is made."""
    needed = {fault: True}
    for at in reversed(range(fault + 1)):
        if at in needed:
            for place in row_places(rows[at]):
                needed[place] = True
    kept = []
    moved = {}
    for at in sorted(list(needed)):
        moved[at] = len(kept)
        kept.append(moved_row(rows[at], moved))
    return (kept, [moved[fault]])


def row_places(row):
    """The places of the rows by which a row is made."""
    if row[0] in ("told", "late"):
        return []
    return list(row[1:])


def moved_row(row, moved):
    """A row whose places are those to which its rows were moved."""
    if row[0] in ("told", "late"):
        return row
    places = [moved[place] for place in row[1:]]
    return (row[0], *places)
