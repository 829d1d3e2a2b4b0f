"""Numbers, names and None as they stand in texts."""

from tidewaiter.checks import is_name
from tidewaiter.errors import BadText

FIGURES = "0123456789"
MOST_FIGURES = 9
NONE = "-"


def is_figures(word):
    """Whether a word is a number without a sign, and without a nought ahead."""
    if not 1 <= len(word) <= MOST_FIGURES or (word[0] == "0" and word != "0"):
        return False
    # isdigit() would let figures of other scripts through.
    return all([sign in FIGURES for sign in word])


def read_number(word):
    """The number that a word is."""
    figures = word.removeprefix("-")
    if not is_figures(figures) or word == "-0":
        raise BadText(0)
    return int(word)


def read_bound(word):
    """The number that a word is, or None where it is the sign for it."""
    if word == NONE:
        return None
    return read_number(word)


def read_name(word):
    """The name that a word is."""
    if not is_name(word):
        raise BadText(0)
    return word


def written(thing):
    """The word for a number, a name or None."""
    return NONE if thing is None else str(thing)


READERS = {"number": read_number, "bound": read_bound, "name": read_name}


def read_words(form, words):
    """What these words are, where form tells the kind of each."""
    if len(words) != len(form):
        raise BadText(0)
    return [read_word(kind, word) for kind, word in zip(form, words)]


def read_word(kind, word):
    """What a word of this kind is."""
    reader = READERS[kind]
    return reader(word)
