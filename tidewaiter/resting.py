"""What is left of a web amid a run.

pairs are the tuples (name, tick) of what was done and heard, start first; clock is the tick of the run.
"""

from tidewaiter.web import START, woven


def ticks_of(pairs):
    """The ticks of what was done and heard, as a dict."""
    return {name: tick for name, tick in pairs}


def acted(web, pairs, clock):
    """Whether a moment was done in this tick (start at tick 0 is none)."""
    moments = web.moments()
    return any([tick == clock and name in moments for name, tick in pairs])


def rest_of(web, pairs, clock):
    """The web of what is left: what was done and heard is fixed, the rest comes from now on."""
    ticks = ticks_of(pairs)
    moments = web.moments()
    # Behind a deed in this tick no end is heard in it any more.
    now = clock + 1 if acted(web, pairs, clock) else clock
    spans = [span_left(span, ticks, now) for span in web.spans()]
    done = [(START, name, tick, tick) for name, tick in pairs if name in moments]
    undone = [(START, name, clock, None) for name in moments if name not in ticks]
    return woven(web.by, moments, spans, web.ties() + done + undone)


def span_left(span, ticks, now):
    """A span with the lengths that it can still have, where its end is heard no sooner than now, or was heard."""
    end, begin, low, high, late = span
    if late is None or begin not in ticks:
        return span
    if end in ticks:
        length = ticks[end] - ticks[begin] - late
        return (end, begin, length, length, late)
    return (end, begin, max(low, now - ticks[begin] - late), high, late)
