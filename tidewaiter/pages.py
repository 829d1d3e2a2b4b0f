"""Logs as texts: a line for the first last tick, and one for each deed or dealing."""

from tidewaiter.deeds import do_line, write_line
from tidewaiter.errors import BadText, Missing, TideError
from tidewaiter.figures import read_words
from tidewaiter.log import Log


def page(log):
    """The text of what stands done in a log."""
    lines = [f"log {log.as_of(0).by}"]
    lines.extend([write_line(done) for done in log.deeds()])
    return "\n".join(lines)


def read_page(text):
    """The log that is written so."""
    first, *lines = text.split("\n")
    log = begun_log(first)
    for row, line in enumerate(lines, start=1):
        try:
            do_line(log, line)
        except (TideError, Missing):
            raise BadText(row) from None
    return log


def begun_log(line):
    """The log without deeds that a first line tells of."""
    word, *words = line.split(" ")
    if word != "log":
        raise BadText(0)
    numbers = read_words(("number",), words)
    try:
        return Log(numbers[0])
    except TideError:
        raise BadText(0) from None
