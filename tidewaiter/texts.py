"""Webs as texts: a line for the last tick, and one for each moment, span and tie."""

from tidewaiter.deeds import read_deed, with_deed, write_deed
from tidewaiter.errors import BadText, Missing, TideError
from tidewaiter.web import Web

# Behind the word of a line the words that the next line may have; the first line has none ahead.
FOLLOWERS = {
    None: ("by",),
    "by": ("moment", "span", "tie"),
    "moment": ("moment", "span", "tie"),
    "span": ("span", "tie"),
    "tie": ("tie",),
}


def write_web(web):
    """The text of a web."""
    deeds = [("by", web.by)]
    deeds.extend([("moment", name) for name in web.moments()])
    deeds.extend([("span", *span) for span in web.spans()])
    deeds.extend([("tie", *tie) for tie in web.ties()])
    return "\n".join([write_deed(deed) for deed in deeds])


def read_web(text):
    """The web that is written so."""
    web = Web()
    ahead = None
    for row, line in enumerate(text.split("\n")):
        try:
            deed = read_deed(line)
            need_follower(ahead, deed[0])
            web = with_deed(web, deed)
        except (TideError, Missing):
            raise BadText(row) from None
        ahead = deed[0]
    return web


def need_follower(ahead, word):
    """Refuses a line that may not stand behind the one ahead of it."""
    if word not in FOLLOWERS[ahead]:
        raise BadText(0)
