"""Runs: a keeper that goes by the least table of its web, tick by tick."""

from tidewaiter.checks import is_one_of
from tidewaiter.errors import BadNews, Done, NoMoment, NoSpan, NothingBack, Over
from tidewaiter.errors import TooEarly, TooLate, Unbegun, Unheard
from tidewaiter.keeping import due_tick, may_be_done
from tidewaiter.laying import bases, heard_spans
from tidewaiter.resting import acted, rest_of, ticks_of
from tidewaiter.settle import least_table
from tidewaiter.web import START, Web


class Waiter:
    """A run of a web: its clock, and what was done and heard till then.

    table is what the run goes by, pairs are the tuples (name, tick) of what was done and heard, and past is the list
    of how the run stood ahead of each step that is not undone yet.
    """

    def __init__(self, web):
        self.table = least_table(web)
        self.web = web
        self.clock = 0
        self.pairs = ((START, 0),)
        self.past = []

    def may(self):
        """The moments that may be done now."""
        ticks = ticks_of(self.pairs)
        return [name for name in self.web.moments() if name not in ticks
                and may_be_done(self.web, self.table, ticks, name, self.clock)]

    def must(self):
        """The moments not done that are due now, or were."""
        ticks = ticks_of(self.pairs)
        return [name for name in self.web.moments() if name not in ticks
                and due_tick(self.table, ticks, name) <= self.clock]

    def due(self, name):
        """The due tick of a moment, or its tick where it is done."""
        need_moment(self.web, name)
        ticks = ticks_of(self.pairs)
        if name in ticks:
            return ticks[name]
        return due_tick(self.table, ticks, name)

    def do(self, name):
        """Does a moment now."""
        need_moment(self.web, name)
        if name in ticks_of(self.pairs):
            raise Done(name)
        need_all_heard(self)
        if name not in self.may():
            raise TooEarly(name, self.clock)
        step_to(self, self.web, self.table, self.clock, (*self.pairs, (name, self.clock)))

    def hear(self, end):
        """Hears the end of a span now."""
        need_hearable(self, end)
        if acted(self.web, self.pairs, self.clock):
            raise TooLate(end, self.clock)
        step_to(self, self.web, self.table, self.clock, (*self.pairs, (end, self.clock)))

    def pass_on(self):
        """Goes to the next tick."""
        if self.is_over():
            raise Over(self.clock)
        overdue = self.must()
        if len(overdue) > 0:
            raise TooLate(overdue[0], self.clock)
        need_all_heard(self)
        step_to(self, self.web, self.table, self.clock + 1, self.pairs)

    def tighten(self, one, other, *, least=None, most=None):
        """Puts a tie into the web of the run, where all can still be kept with it."""
        web = self.web.with_tie(one, other, least=least, most=most)
        table = least_table(rest_of(web, self.pairs, self.clock))
        step_to(self, web, table, self.clock, self.pairs)

    def step_back(self):
        """Undoes the last step."""
        if len(self.past) == 0:
            raise NothingBack()
        stand(self, self.past.pop())

    def go(self, steps):
        """Does a list of steps, whole or not at all."""
        # What is refused is refused to a twin, and this run stands as it did.
        other = self.twin()
        for step in steps:
            take(other, step)
        stand(self, standing(other))
        self.past = other.past

    def told(self):
        """The pairs (name, tick) of what was done and heard."""
        return list(self.pairs)

    def is_over(self):
        """Whether nothing is left to be done or heard."""
        ticks = ticks_of(self.pairs)
        return all([base in ticks for base in bases(self.web)])

    def rest(self):
        """The web of what is left."""
        return rest_of(self.web, self.pairs, self.clock)

    def twin(self):
        """Another run that stands alike, with the same steps to go back."""
        # With a tie granted amid the run its web may be unsteered from tick 0 on, so the twin begins with a bare one.
        other = Waiter(Web())
        stand(other, standing(self))
        other.past = list(self.past)
        return other

    def __len__(self):
        return len(self.pairs)


def standing(waiter):
    """How a run stands, to be taken up again by stand."""
    return (waiter.web, waiter.table, waiter.clock, waiter.pairs)


def stand(waiter, held):
    """Puts a run where it, or another one, stood."""
    waiter.web, waiter.table, waiter.clock, waiter.pairs = held


def step_to(waiter, web, table, clock, pairs):
    """Makes a step that can be undone."""
    waiter.past.append(standing(waiter))
    stand(waiter, (web, table, clock, pairs))


def take(waiter, step):
    """Does a step of a list of steps."""
    if step[0] == "do":
        waiter.do(step[1])
    elif step[0] == "hear":
        waiter.hear(step[1])
    else:
        assert step[0] == "pass"
        waiter.pass_on()


def need_moment(web, name):
    """Refuses what is no moment of the web."""
    if not is_one_of(name, web.moments()):
        raise NoMoment(name)


def need_hearable(waiter, end):
    """Refuses an end that can't be heard at this tick."""
    rows = {span[0]: span[1:] for span in heard_spans(waiter.web)}
    ticks = ticks_of(waiter.pairs)
    if not is_one_of(end, rows):
        raise NoSpan(end)
    if end in ticks:
        raise Done(end)
    begin, first, last = rows[end]
    if begin not in ticks:
        raise Unbegun(end)
    if not first <= waiter.clock - ticks[begin] <= last:
        raise BadNews(end, waiter.clock)


def need_all_heard(waiter):
    """Refuses to go on where an end must be heard first."""
    ticks = ticks_of(waiter.pairs)
    for end, begin, first, last in heard_spans(waiter.web):
        if end not in ticks and begin in ticks and waiter.clock - ticks[begin] >= last:
            raise Unheard(end)
