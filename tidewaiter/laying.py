"""Laying: the bases of a web, and the bounds between them that its ties tell."""

from tidewaiter.web import START, need_point


def bases(web):
    """The list of all bases: start, the moments, the heard ends."""
    ends = [span[0] for span in heard_spans(web)]
    return [START] + web.moments() + ends


def offset(web, name):
    """The base of a point, and the least and the greatest offset from it."""
    need_point(web, name)
    for end, begin, low, high, late in web.spans():
        if end == name and late is None:
            return (begin, low, high)
        if end == name:
            return (end, -late, -late)
    return (name, 0, 0)


def bounds(web):
    """The list of the told bounds (x, y, amount): y comes at most amount ticks behind x."""
    found = []
    for moment in web.moments():
        found.append((START, moment, web.by))
        found.append((moment, START, 0))
    for end, begin, first, last in heard_spans(web):
        found.append((begin, end, last))
        found.append((end, begin, -first))
    for tie in web.ties():
        found.extend(tie_bounds(web, tie))
    return found


def tie_bounds(web, tie):
    """The one or two bounds that hold just where a tie does, whatever the lengths that are never heard."""
    one, other, least, most = tie
    one_base, one_least, one_most = offset(web, one)
    other_base, other_least, other_most = offset(web, other)
    found = []
    if most is not None:
        found.append((one_base, other_base, most - other_most + one_least))
    if least is not None:
        found.append((other_base, one_base, other_least - one_most - least))
    return found


def heard_spans(web):
    """The spans whose ends are heard: (end, begin, least and greatest ticks until it is heard)."""
    return [(end, begin, low + late, high + late)
            for end, begin, low, high, late in web.spans() if late is not None]
