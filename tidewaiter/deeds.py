"""Deeds: tuples that say what is done to a web, and the lines that they stand in."""

from tidewaiter.errors import BadDeed, BadText
from tidewaiter.figures import read_words, written

# Behind each word the kinds of the things of its deed, as texts have them.
FORMS = {
    "by": ("number",),
    "moment": ("name",),
    "span": ("name", "name", "number", "number", "bound"),
    "tie": ("name", "name", "bound", "bound"),
    "without": ("name",),
    "untie": ("number",),
}


def need_deed(deed):
    """Refuses a deed with another word, or with more or fewer things."""
    if not isinstance(deed, tuple) or len(deed) == 0:
        raise BadDeed("")
    word = deed[0]
    if not isinstance(word, str) or word not in FORMS or len(deed) - 1 != len(FORMS[word]):
        raise BadDeed(word)


def with_deed(web, deed):
    """The web behind a deed."""
    word, *things = deed
    if word == "by":
        return web.with_by(*things)
    if word == "moment":
        return web.with_moment(*things)
    if word == "span":
        end, begin, low, high, late = things
        return web.with_span(end, begin, low, high, late=late)
    if word == "tie":
        one, other, least, most = things
        return web.with_tie(one, other, least=least, most=most)
    if word == "without":
        return web.without(*things)
    return web.without_tie(*things)


def write_deed(deed):
    """The words of a deed."""
    return " ".join([written(thing) for thing in deed])


def read_deed(text):
    """The deed that is written so."""
    word, *words = text.split(" ")
    if word not in FORMS:
        raise BadText(0)
    things = read_words(FORMS[word], words)
    return (word, *things)


def write_line(done):
    """The line of a deed, or of the list of the deeds of a dealing."""
    deeds = done if isinstance(done, list) else [done]
    return "; ".join([write_deed(deed) for deed in deeds])


def do_line(log, line):
    """Does in a log the deed or dealing that stands in a line."""
    deeds = [read_deed(text) for text in line.split("; ")]
    if len(deeds) == 1:
        log.do(deeds[0])
    else:
        log.deal(deeds)
