"""The rules by which bounds and waits are made of others.

What is told or made is a fact: ("most", x, y, amount) is a bound, ("until", end, x, amount) a wait. A rule tells the
fact that it makes, or None where what it is handed doesn't fit it. By heard the rules know the heard spans: a dict
from each heard end to its begin and its lesser length.
"""

from tidewaiter.laying import heard_spans

MOST = "most"
UNTIL = "until"


def heard_begins(web):
    """What the rules know of the heard spans: a dict from ends to pairs (begin, least ticks until it is heard)."""
    return {end: (begin, first) for end, begin, first, last in heard_spans(web)}


def late_waits(web):
    """The waits that the rule late makes, of nothing: one for each heard span."""
    return [(UNTIL, end, end, -last) for end, begin, first, last in heard_spans(web)]


def along(one, other):
    """Of two bounds, one from where the other one goes to, a bound."""
    if one[0] != MOST or other[0] != MOST or one[2] != other[1]:
        return None
    return (MOST, one[1], other[2], one[3] + other[3])


def wait(one, other):
    """Of a bound to a base, and a wait of that base, a wait."""
    if one[0] != MOST or other[0] != UNTIL or one[2] != other[2]:
        return None
    return (UNTIL, other[1], one[1], one[3] + other[3])


def sure(heard, one):
    """Of a wait the bound that holds whenever the end is heard."""
    if one[0] != UNTIL:
        return None
    begin, first = heard[one[1]]
    return (MOST, one[2], begin, max(one[3], -first))


def soon(heard, one):
    """Of a bound by which a base comes ahead of a heard end, one from that end's begin."""
    if one[0] != MOST or one[1] not in heard or one[3] >= 0:
        return None
    begin, first = heard[one[1]]
    return (MOST, begin, one[2], first + one[3])


def ahead(heard, one):
    """Of a wait that holds back another span's heard end, one of that end's begin."""
    if one[0] != UNTIL or one[2] not in heard or one[1] == one[2] or one[3] >= 0:
        return None
    begin, first = heard[one[2]]
    return (UNTIL, one[1], begin, first + one[3])


PAIR_RULES = {"along": along, "wait": wait}
SINGLE_RULES = {"sure": sure, "soon": soon, "ahead": ahead}
