"""What counts as a whole number, and as a name."""

LETTERS = "abcdefghijklmnopqrstuvwxyz"
LONGEST_NAME = 8


def is_number(thing):
    """Whether a thing is a whole number."""
    # Python counts True and False among the integers; the document does not.
    return isinstance(thing, int) and not isinstance(thing, bool)


def is_whole(thing, least, most):
    """Whether a thing is a whole number from least to most."""
    return is_number(thing) and least <= thing <= most


def is_one_of(thing, names):
    """Whether a thing is a text, and one of these names."""
    # What is no text may not be asked for in a dict, or may be equal to anything.
    return isinstance(thing, str) and thing in names


def is_name(thing):
    """Whether a thing is a text of one to eight small letters."""
    if not isinstance(thing, str) or not 1 <= len(thing) <= LONGEST_NAME:
        return False
    # islower() would let letters beyond a to z through.
    return all([letter in LETTERS for letter in thing])
