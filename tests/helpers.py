"""What several test files share."""

import string
import unittest
from unittest import mock

from tidewaiter.web import Web

HUGE = 10 ** 6000
TRUTHS = (True, False)
NO_NAMES = ("", "abcdefghi", "A", "aB", "a1", "1", "a b", " a", "a\n", "a-b", "a_b", "\u00e9", "\u00df", "\u0430",
            None, True, False, 0, 1, 97, b"a", ["a"], ("a",), {"a": 1}, {"a"}, object, mock.ANY)


def state(web):
    """All that a web tells, to hold it against what it tells later."""
    return (web.by, web.moments(), web.spans(), web.ties(), web.points(), len(web), repr(web))


def with_moments(names, by=100):
    web = Web(by)
    for name in names:
        web = web.with_moment(name)
    return web


def letters(count):
    return list(string.ascii_lowercase[:count])


class Case(unittest.TestCase):
    def check_refused(self, kind, fields, call, *args, **named):
        """The call is refused with just this refusal and these fields."""
        with self.assertRaises(kind) as caught:
            call(*args, **named)
        error = caught.exception
        self.assertIs(type(error), kind)
        self.assertEqual(error.word, kind.__name__)
        for field, value in fields.items():
            # 1 == True, so the kinds are held against each other, too.
            self.assertIs(type(getattr(error, field)), type(value))
            self.assertTrue(getattr(error, field) == value, field)
