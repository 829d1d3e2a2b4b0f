"""Playing: whole runs of a keeper with chosen lengths, keepers that go by a table, and lengths that spoil a keeper."""

from tidewaiter.asks import corners
from tidewaiter.checks import is_number, is_one_of, is_whole
from tidewaiter.errors import BadKeeper, BadLength, BadPaper, NoSpan
from tidewaiter.keeping import due_tick, may_be_done
from tidewaiter.papers import is_ring, meaning
from tidewaiter.web import START


def play(web, keeper, lengths):
    """The ticks of all points in the run of a keeper with these lengths, as far as they come."""
    need_lengths(web, lengths)
    # The keeper may be the asker's own and change what the asker handed in.
    spans = [(end, begin, lengths[end], late) for end, begin, low, high, late in web.spans()]
    done = {START: 0}
    heard = {}
    for tick in range(web.by + 1):
        hear_all(spans, done, heard, tick)
        names = keeper(tick, dict(done), dict(heard))
        do_all(web, done, names, tick)
    ends = {end: done[begin] + length for end, begin, length, late in spans if begin in done}
    ticks = {**done, **ends}
    return {name: ticks[name] for name in web.points() if name in ticks}


def need_lengths(web, lengths):
    """Refuses lengths that lack a span, or have one that its span can't have."""
    for end, begin, low, high, late in web.spans():
        if end not in lengths:
            raise NoSpan(end)
    for end, begin, low, high, late in web.spans():
        if not is_whole(lengths[end], low, high):
            raise BadLength(lengths[end], lengths[end])


def hear_all(spans, done, heard, tick):
    """Hears the ends that are to be heard in this tick."""
    for end, begin, length, late in spans:
        if late is not None and begin in done and done[begin] + length + late == tick:
            heard[end] = tick


def do_all(web, done, names, tick):
    """Does what a keeper told to do in this tick."""
    moments = web.moments()
    for name in names:
        if not is_one_of(name, moments) or name in done:
            raise BadKeeper(tick)
        done[name] = tick


def broken(web, ticks):
    """What is not kept with these ticks: ("undone", name), ("tie", at), or None."""
    for name in web.moments():
        if not is_whole(ticks.get(name), 0, web.by):
            return ("undone", name)
    for at, tie in enumerate(web.ties()):
        if not tie_holds(tie, ticks):
            return ("tie", at)
    return None


def tie_holds(tie, ticks):
    """Whether both points of a tie have ticks, and these lie as the tie says."""
    one, other, least, most = tie
    first = ticks.get(one)
    second = ticks.get(other)
    if not is_number(first) or not is_number(second):
        return False
    behind = second - first
    return (least is None or least <= behind) and (most is None or behind <= most)


def by_table(web, table, *, lazy=False):
    """A keeper that does each moment as soon as it may, or, where it is lazy, as soon as it may and is due."""
    def keeper(tick, done, heard):
        ticks = {**done, **heard}
        names = []
        name = next_moment(web, table, ticks, tick, lazy)
        while name is not None:
            ticks[name] = tick
            names.append(name)
            name = next_moment(web, table, ticks, tick, lazy)
        return names
    return keeper


def next_moment(web, table, ticks, tick, lazy):
    """The first moment that such a keeper does, with these ticks of what was done and heard; None where it is none."""
    for name in web.moments():
        if name not in ticks and may_be_done(web, table, ticks, name, tick):
            if not lazy or due_tick(table, ticks, name) <= tick:
                return name
    return None


def spoil(web, paper, keeper):
    """Lengths with which this keeper breaks a web that a paper shows not to be steered.

    Lengths at their bounds are enough. In a play that keeps all ties some row of the ring doesn't hold, and where a
    row doesn't hold one of those doesn't that it is made of: in the same play, or, by sure, soon and ahead, in that
    with one span at its other bound, in which all that matters goes as before until its end is heard. At last it is a
    told bound that doesn't hold, so a tie is broken, at the worst bounds of the ends that are never heard.
    """
    rows, ring = paper
    if not is_ring(web, meaning(web, rows), ring):
        raise BadPaper(-1)
    left = corners(web)
    while broken(web, play(web, keeper, left[0])) is None:
        left.pop(0)
    return left[0]
