"""Point [36]: webs as texts."""

import itertools
import random
import unittest

from tidewaiter.errors import BadText
from tidewaiter.texts import read_web, write_web
from tidewaiter.waiter import Waiter
from tidewaiter.web import Web
from helpers import NO_FIGURES, NO_WORDS, Case, TextCase, any_random_web, parts, state, with_moments

TEXT = """by 50
moment sail
moment dine
span land sail 3 7 2
span rain start 1 1000 -
tie land dine 0 9
tie start sail - 30
tie rain dine -12 -
tie dine sail -1000 -3"""
LINES = TEXT.split("\n")


def web_of_text():
    web = with_moments(["sail", "dine"], 50).with_span("land", "sail", 3, 7, late=2)
    web = web.with_span("rain", "start", 1, 1000, late=None).with_tie("land", "dine", least=0, most=9)
    web = web.with_tie("start", "sail", most=30).with_tie("rain", "dine", least=-12)
    return web.with_tie("dine", "sail", least=-1000, most=-3)


def full_web():
    """As many of each part as there may be."""
    web = with_moments("abcdefghij", 1000)
    for end in ("p", "q", "r", "s"):
        web = web.with_span(end, "a", 1000, 1000, late=1000)
    for most in range(960, 1000):
        web = web.with_tie("a", "b", least=-1000, most=most)
    return web


class Written(Case):
    def test_written(self):
        self.assertEqual(write_web(web_of_text()), TEXT)
        self.assertEqual(write_web(web=web_of_text()), TEXT)
        self.assertEqual(read_web(TEXT), web_of_text())
        self.assertEqual(read_web(text=TEXT), web_of_text())

    def test_webs_with_few_parts(self):
        moment, span = Web(1).with_moment("a"), Web(1000).with_span("e", "start", 1, 2)
        for web, text in ((Web(), "by 100"), (Web(1), "by 1"), (Web(1000), "by 1000"), (moment, "by 1\nmoment a"),
                          (span, "by 1000\nspan e start 1 2 0"),
                          (moment.with_tie("start", "a", least=0), "by 1\nmoment a\ntie start a 0 -"),
                          (span.with_tie("e", "start", most=-7), "by 1000\nspan e start 1 2 0\ntie e start - -7")):
            self.assertEqual(write_web(web), text)
            self.assertEqual(read_web(text), web)

    def test_full_webs(self):
        text = write_web(full_web())
        self.assertEqual(len(text.split("\n")), 55)
        self.assertEqual(read_web(text), full_web())

    def test_many_webs_are_read_back(self):
        rng = random.Random(36)
        for _ in range(500):
            web = any_random_web(rng)
            before = state(web)
            told = read_web(write_web(web))
            self.assertEqual(told, web)
            self.assertEqual(repr(parts(told)), repr(parts(web)))
            self.assertEqual(state(web), before)

    def test_rests_with_more_than_forty_ties(self):
        rest = Waiter(full_web()).rest()
        text = write_web(rest)
        self.assertEqual(text, write_web(full_web()) + "".join(f"\ntie start {name} 0 -" for name in "abcdefghij"))
        self.check_refused(BadText, {"row": 55}, read_web, text)


class Refused(TextCase):
    lines, read, write = LINES, staticmethod(read_web), staticmethod(write_web)

    def test_ends_of_lines(self):
        self.check_ends_of_lines()
        self.check_refused(BadText, {"row": 1}, read_web, "by 5\n")

    def test_blanks(self):
        self.check_blanks()

    def test_one_sign_spoilt(self):
        self.check_signs(random.Random(37))

    def test_words_more_or_fewer(self):
        for row, line in enumerate(LINES):
            words = line.split(" ")
            for count in range(len(words)):
                self.check_line(row, " ".join(words[:count]))
                self.check_line(row, " ".join(words[:count] + words[count + 1:]))
            for more in ("-", "0", "1", "a", "sail", ""):
                self.check_line(row, f"{line} {more}")

    def test_other_words(self):
        for row, line in enumerate(LINES):
            rest = line.split(" ", 1)[1]
            for word in ("", "By", "bye", "moments", "spam", "tied", "log", "web", "without", "untie", "MOMENT", "-"):
                self.check_line(row, f"{word} {rest}")
        for deed in ("without dine", "untie 0", "by 50", "log 50", "undo", "web"):
            self.check(9, [*LINES, deed])

    def each_place(self, kind):
        """The places of the things of this kind: a row, and the line around it."""
        for row, place in {"number": [(0, 1), (3, 3), (3, 4)], "late": [(3, 5), (4, 5)], "end": [(3, 1), (4, 1)],
                           "bound": [(row, place) for row in range(5, 9) for place in (3, 4)], "moment": [(1, 1)],
                           "name": [(3, 2), (4, 2), *[(row, place) for row in range(5, 9) for place in (1, 2)]]}[kind]:
            words = LINES[row].split(" ")
            yield row, words[:place], words[place + 1:]

    def test_numbers(self):
        for kind in ("number", "late", "bound"):
            for row, before, behind in self.each_place(kind):
                for number in NO_FIGURES:
                    if number != "-" or kind == "number":
                        self.check_line(row, " ".join([*before, number, *behind]))

    def test_names(self):
        for kind in ("end", "moment", "name"):
            for row, before, behind in self.each_place(kind):
                for name in NO_WORDS:
                    self.check_line(row, " ".join([*before, name, *behind]))

    def test_names_that_are_taken(self):
        for row, before, behind in [*self.each_place("end"), *self.each_place("moment")]:
            for name in ("start", *[LINES[at].split(" ")[1] for at in range(1, row)]):
                self.check_line(row, " ".join([*before, name, *behind]))

    def test_unknown_points(self):
        for row, before, behind in self.each_place("name"):
            self.check_line(row, " ".join([*before, "other", *behind]))
        # A span begins at start or at a moment, not at an end.
        self.check_line(4, "span rain land 1 1000 -")
        self.check_line(4, "span rain rain 1 1000 -")
        self.check_line(5, "tie dine dine 0 9")

    def test_bounds(self):
        for number in ("0", "-1", "1001", "999999999", "-999999999"):
            self.check_line(0, f"by {number}")
        for low, high in ((0, 7), (-1, 7), (8, 7), (3, 1001), (1001, 1001), (3, 999999999)):
            self.check_line(3, f"span land sail {low} {high} 2")
        for late in ("-1", "1001", "999999999"):
            self.check_line(3, f"span land sail 3 7 {late}")
        for least, most in itertools.product(("-1001", "1001", "999999999", "-999999999"), ("-", "0")):
            self.check_line(5, f"tie land dine {least} {most}")
            self.check_line(5, f"tie land dine {most} {least}")
        self.check_line(5, "tie land dine 9 8")
        self.check_line(5, "tie land dine - -")

    def test_each_bound_is_granted(self):
        for line in ("by 1", "by 1000", "by 7"):
            self.assertEqual(write_web(read_web(line)), line)
        for line in ("span land sail 1 1 0", "span land sail 1 1000 1000", "span land start 1000 1000 -"):
            text = "\n".join([*LINES[:3], line])
            self.assertEqual(write_web(read_web(text)), text)
        for line in ("tie dine land -1000 1000", "tie start rain 0 0", "tie rain start -1000 -"):
            text = "\n".join([*LINES[:5], line])
            self.assertEqual(write_web(read_web(text)), text)

    def test_lines_left_out(self):
        self.check(0, LINES[1:])
        # Without sail its span can't stand, without dine the ties can't, nor without the spans.
        self.check(2, [LINES[0], *LINES[2:]])
        self.check(4, [*LINES[:2], *LINES[3:]])
        self.check(4, [*LINES[:3], *LINES[4:]])
        self.check(6, [*LINES[:4], *LINES[5:]])

    def test_lines_twice(self):
        for row in range(5):
            self.check(row + 1, [*LINES[:row + 1], *LINES[row:]])
        for row in range(5, 9):
            read_web("\n".join([*LINES[:row + 1], *LINES[row:]]))
        self.check(9, [*LINES, LINES[0]])

    def test_lines_exchanged(self):
        for one, other in itertools.combinations(range(9), 2):
            lines = list(LINES)
            lines[one], lines[other] = lines[other], lines[one]
            kinds = [LINES[at].split(" ")[0] for at in (one, other)]
            if kinds[0] == kinds[1]:
                self.assertEqual(write_web(read_web("\n".join(lines))), "\n".join(lines))
            else:
                self.assertTrue(self.is_refused_by_prefixes(lines))

    def test_order_of_kinds(self):
        self.check(2, ["by 9", "span e start 1 2 0", "moment a"])
        self.check(3, ["by 9", "moment a", "tie start a 1 -", "moment b"])
        self.check(3, ["by 9", "moment a", "tie start a 1 -", "span e a 1 2 0"])
        self.check(3, ["by 9", "span e start 1 2 0", "tie start e 1 -", "span f start 1 2 0"])
        self.check(1, ["by 9", "by 9"])
        self.check(2, ["by 9", "moment a", "by 9"])
        self.check(0, ["moment a", "by 9"])

    def test_one_more_than_there_may_be(self):
        lines = write_web(full_web()).split("\n")
        self.check(11, [*lines[:11], "moment k", *lines[11:]])
        self.check(15, [*lines[:15], "span t a 1 2 0", *lines[15:]])
        self.check(55, [*lines, "tie a b 0 1"])


if __name__ == "__main__":
    unittest.main()
