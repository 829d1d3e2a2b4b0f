"""Further questions: what a web would be with other news, other lengths, another last tick or fewer ties."""

from tidewaiter.checks import is_one_of
from tidewaiter.errors import BadLate, NoSpan, Unsteered
from tidewaiter.settle import steered
from tidewaiter.web import MOST_LATE, MOST_LENGTH, woven


def deaf(web):
    """The web with none of its ends ever heard."""
    return with_spans(web, [(end, begin, low, high, None) for end, begin, low, high, late in web.spans()])


def foreseen(web):
    """Whether a keeper that knows all lengths ahead can keep the web, whatever they are.

    With known lengths a web can't be kept just where its ties lead round to less than nought. Such a way round has
    each length some whole number of times, so where it comes below nought it does so at some bounds of the lengths.
    """
    return all([steered(with_lengths(web, lengths)) for lengths in corners(web)])


def corners(web):
    """All dicts of lengths at their bounds, the first spans changing last, low ahead of high."""
    found = [{}]
    for end, begin, low, high, late in web.spans():
        ways = [low] if low == high else [low, high]
        found = [{**lengths, end: length} for lengths in found for length in ways]
    return found


def widest(web, end):
    """The greatest high of a span with which the web is still steered."""
    end, begin, low, high, late = span_of(web, end)
    need_steered(web)
    return last_good(high, MOST_LENGTH, lambda more: steered(with_span_row(web, (end, begin, low, more, late))))


def deafest(web, end):
    """The greatest late of a span with which the web is still steered."""
    end, begin, low, high, late = span_of(web, end)
    if late is None:
        raise BadLate(None)
    need_steered(web)
    return last_good(late, MOST_LATE, lambda more: steered(with_span_row(web, (end, begin, low, high, more))))


def soonest(web):
    """The least last tick with which the web is still steered."""
    need_steered(web)
    return web.by - last_good(0, web.by - 1, lambda less: steered(web.with_by(web.by - less)))


def culprits(web):
    """The places of the ties without which alone the web would be steered; none where it is."""
    if steered(web):
        return []
    return [at for at in range(len(web.ties())) if steered(web.without_tie(at))]


def span_of(web, end):
    """The span with this end."""
    rows = {span[0]: span for span in web.spans()}
    if not is_one_of(end, rows):
        raise NoSpan(end)
    return rows[end]


def need_steered(web):
    """Refuses a web that isn't steered."""
    if not steered(web):
        raise Unsteered()


def with_spans(web, spans):
    """The web with these spans for its own."""
    return woven(web.by, web.moments(), spans, web.ties())


def with_span_row(web, row):
    """The web with this span for the one that has its end."""
    return with_spans(web, [row if span[0] == row[0] else span for span in web.spans()])


def with_lengths(web, lengths):
    """The web in which each span has just this length, so that there is no news in its end."""
    return with_spans(web, [(end, begin, lengths[end], lengths[end], None)
                            for end, begin, low, high, late in web.spans()])


def last_good(first, last, is_good):
    """The greatest good number up to last, where first is good and behind one that isn't none is."""
    while first < last:
        middle = (first + last + 1) // 2
        if is_good(middle):
            first = middle
        else:
            last = middle - 1
    return first
