"""The desk: a log that is asked, and told its deeds, by lines of text."""

from tidewaiter.asks import culprits, deafest, soonest, widest
from tidewaiter.deeds import FORMS, do_line, write_line
from tidewaiter.errors import BadText, Missing, NothingBack, TideError
from tidewaiter.figures import read_words
from tidewaiter.log import Log
from tidewaiter.settle import least_table, steered
from tidewaiter.texts import write_web
from tidewaiter.web import BY


class Desk:
    """A log of its own, and an answer to each line."""

    def __init__(self, by=BY):
        self.log = Log(by)

    def say(self, line):
        """The answer to a line; what is refused is told by its word."""
        try:
            return answered(self.log, line)
        except (TideError, Missing, NothingBack) as refusal:
            return f"refused {refusal.word}"


def say_undo(log):
    """The deed that was taken back."""
    return write_line(log.undo())


def say_redo(log):
    """The deed that was done again."""
    return write_line(log.redo())


def say_web(log):
    """The text of the web."""
    return write_web(log.now())


def say_wait(log, one, other):
    """The bound between two bases."""
    return str(least_table(log.now()).between(one, other))


def say_until(log, end, one):
    """The wait of a base for an end."""
    return str(least_table(log.now()).until(end, one))


def say_widest(log, end):
    """The greatest high of a span."""
    return str(widest(log.now(), end))


def say_deafest(log, end):
    """The greatest late of a span."""
    return str(deafest(log.now(), end))


def say_soonest(log):
    """The least last tick."""
    return str(soonest(log.now()))


def say_culprits(log):
    """The places of the ties that are to blame."""
    places = culprits(log.now())
    return "none" if len(places) == 0 else " ".join([str(at) for at in places])


ANSWERS = {
    "undo": say_undo, "redo": say_redo, "web": say_web, "wait": say_wait, "until": say_until, "widest": say_widest,
    "deafest": say_deafest, "soonest": say_soonest, "culprits": say_culprits,
}
# The kinds of the words behind each of these.
QUESTIONS = {
    "undo": (), "redo": (), "web": (), "wait": ("name", "name"), "until": ("name", "name"), "widest": ("name",),
    "deafest": ("name",), "soonest": (), "culprits": (),
}


def answered(log, line):
    """The answer to a line that is not refused."""
    word, *words = line.split(" ")
    if word in FORMS:
        do_line(log, line)
        return "yes" if steered(log.now()) else "no"
    if word not in QUESTIONS:
        raise BadText(0)
    names = read_words(QUESTIONS[word], words)
    reply = ANSWERS[word]
    return reply(log, *names)
