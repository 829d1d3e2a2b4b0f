"""What counts as a whole number, and as a name."""

LETTERS = "abcdefghijklmnopqrstuvwxyz"
LONGEST_NAME = 8


def is_whole(thing, least, most):
    """Whether a thing is a whole number from least to most."""
    # Python counts True and False among the integers; the document does not.
    if isinstance(thing, bool) or not isinstance(thing, int):
        return False
    return least <= thing <= most


def is_name(thing):
    """Whether a thing is a text of one to eight small letters."""
    if not isinstance(thing, str) or not 1 <= len(thing) <= LONGEST_NAME:
        return False
    # islower() would let letters beyond a to z through.
    return all([letter in LETTERS for letter in thing])
