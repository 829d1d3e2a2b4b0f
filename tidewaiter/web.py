"""Webs: a last tick, moments, spans and ties."""

from tidewaiter.checks import is_name, is_one_of, is_whole
from tidewaiter.errors import BadBy, BadLate, BadLength, BadName, BadTie, Full
from tidewaiter.errors import NoMoment, NoPoint, NoTie, Taken, Used

BY = 100
START = "start"
MOST_BY = 1000
MOST_MOMENTS = 10
MOST_SPANS = 4
MOST_TIES = 40
MOST_LENGTH = 1000
MOST_LATE = 1000
MOST_BOUND = 1000


class Web:
    """A web, never changed: each deed tells a new one."""

    def __init__(self, by=BY):
        if not is_whole(by, 1, MOST_BY):
            raise BadBy(by)
        self.by = by
        self.moment_rows = ()
        self.span_rows = ()
        self.tie_rows = ()

    def with_by(self, by):
        """The web with another last tick."""
        return woven(by, self.moment_rows, self.span_rows, self.tie_rows)

    def with_moment(self, name):
        """The web with a moment more."""
        need_free_name(self, name)
        if len(self.moment_rows) >= MOST_MOMENTS:
            raise Full(MOST_MOMENTS)
        return woven(self.by, (*self.moment_rows, name), self.span_rows, self.tie_rows)

    def with_span(self, end, begin, low, high, *, late=0):
        """The web with a span more, whose end comes low to high ticks behind begin."""
        need_free_name(self, end)
        if not is_begin(self, begin):
            raise NoMoment(begin)
        if not are_lengths(low, high):
            raise BadLength(low, high)
        if not is_lateness(late):
            raise BadLate(late)
        if len(self.span_rows) >= MOST_SPANS:
            raise Full(MOST_SPANS)
        span = (end, begin, low, high, late)
        return woven(self.by, self.moment_rows, (*self.span_rows, span), self.tie_rows)

    def with_tie(self, one, other, *, least=None, most=None):
        """The web with a tie more: other comes least to most ticks behind one."""
        need_point(self, one)
        need_point(self, other)
        if one == other or not are_bounds(least, most):
            raise BadTie(least, most)
        if len(self.tie_rows) >= MOST_TIES:
            raise Full(MOST_TIES)
        tie = (one, other, least, most)
        return woven(self.by, self.moment_rows, self.span_rows, (*self.tie_rows, tie))

    def without(self, name):
        """The web without a moment, or without the span that has this end."""
        need_point(self, name)
        if name == START:
            raise NoPoint(name)
        if is_used(self, name):
            raise Used(name)
        moments = [moment for moment in self.moment_rows if moment != name]
        spans = [span for span in self.span_rows if span[0] != name]
        return woven(self.by, moments, spans, self.tie_rows)

    def without_tie(self, at):
        """The web without the tie at this place."""
        if not is_whole(at, 0, len(self.tie_rows) - 1):
            raise NoTie(at)
        ties = self.tie_rows[:at] + self.tie_rows[at + 1:]
        return woven(self.by, self.moment_rows, self.span_rows, ties)

    def moments(self):
        """The names of the moments, in the order in which they came."""
        return list(self.moment_rows)

    def spans(self):
        """The spans, as tuples (end, begin, low, high, late)."""
        return list(self.span_rows)

    def ties(self):
        """The ties, as tuples (one, other, least, most)."""
        return list(self.tie_rows)

    def points(self):
        """The names of start, of the moments and of the ends."""
        ends = [span[0] for span in self.span_rows]
        return [START] + self.moments() + ends

    def __eq__(self, other):
        return (isinstance(other, Web) and self.by == other.by
                and self.moment_rows == other.moment_rows
                and self.span_rows == other.span_rows
                and self.tie_rows == other.tie_rows)

    def __len__(self):
        return len(self.points())

    def __repr__(self):
        return f"Web({len(self)} points, {len(self.tie_rows)} ties, by {self.by})"


def woven(by, moments, spans, ties):
    """A web of these parts, of which only by is checked: a rest may have more ties than with_tie grants."""
    web = Web(by)
    web.moment_rows = tuple(moments)
    web.span_rows = tuple(spans)
    web.tie_rows = tuple(ties)
    return web


def is_begin(web, name):
    """Whether a span can begin there: at start or at a moment."""
    return is_one_of(name, [START] + web.moments())


def are_lengths(low, high):
    """Whether these are the least and the greatest length of a span."""
    return is_whole(low, 1, MOST_LENGTH) and is_whole(high, low, MOST_LENGTH)


def is_lateness(late):
    """Whether an end can be heard so late: so many ticks after it came, or, by None, never."""
    return late is None or is_whole(late, 0, MOST_LATE)


def is_used(web, name):
    """Whether a span begins at a point, or a tie has it."""
    begins = [span[1] for span in web.spans()]
    return name in begins or any([name in tie[:2] for tie in web.ties()])


def are_bounds(least, most):
    """Whether these are the two bounds of a tie."""
    told = [bound for bound in (least, most) if bound is not None]
    if not all([is_whole(bound, -MOST_BOUND, MOST_BOUND) for bound in told]):
        return False
    # With one bound alone the two ends of the list are the same one.
    return len(told) > 0 and told[0] <= told[-1]


def need_free_name(web, name):
    """Refuses what is no name, and a name that a point has."""
    if not is_name(name):
        raise BadName(name)
    if name in web.points():
        raise Taken(name)


def need_point(web, name):
    """Refuses what is no point of the web."""
    if not is_one_of(name, web.points()):
        raise NoPoint(name)
