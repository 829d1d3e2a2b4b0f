"""Point [39]: logs as texts."""

import random
import unittest

from tidewaiter.errors import BadText, Missing, NothingBack, TideError
from tidewaiter.log import Log
from tidewaiter.pages import page, read_page
from tidewaiter.web import Web
from helpers import NO_FIGURES, NO_WORDS, Case, TextCase, random_deed

ENTRIES = [
    (("moment", "sail"), "moment sail"),
    ([("moment", "dine"), ("span", "land", "sail", 3, 7, 2)], "moment dine; span land sail 3 7 2"),
    (("span", "rain", "start", 1, 1000, None), "span rain start 1 1000 -"),
    (("tie", "land", "dine", 0, 9), "tie land dine 0 9"),
    ([("tie", "start", "sail", None, 30), ("tie", "rain", "dine", -12, None), ("untie", 0)],
     "tie start sail - 30; tie rain dine -12 -; untie 0"),
    (("by", 77), "by 77"),
    (("untie", 1), "untie 1"),
    ([("untie", 0), ("without", "rain")], "untie 0; without rain"),
    (("moment", "b"), "moment b"),
    (("without", "b"), "without b"),
]
LINES = ["log 50", *[line for entry, line in ENTRIES]]
TEXT = "\n".join(LINES)


def log_of_text():
    log = Log(50)
    for entry, line in ENTRIES:
        enter(log, entry)
    return log


def enter(log, entry):
    return log.deal(entry) if isinstance(entry, list) else log.do(entry)


def random_log(rng):
    log = Log(rng.randint(1, 1000))
    for _ in range(rng.randint(0, 25)):
        deeds = [random_deed(rng, log.now()) for _ in range(rng.choice([1, 1, 1, 2, 3]))]
        try:
            enter(log, deeds if len(deeds) > 1 else deeds[0])
        except (TideError, Missing):
            pass
    return log


class Written(Case):
    def test_written(self):
        log = log_of_text()
        self.assertEqual(page(log), TEXT)
        self.assertEqual(page(log=log), TEXT)
        told = read_page(text=TEXT)
        self.assertIs(type(told), Log)
        self.assertEqual((told.deeds(), told.now()), ([entry for entry, line in ENTRIES], log.now()))

    def test_first_last_ticks(self):
        for by in (1, 100, 1000):
            self.assertEqual(page(Log(by)), f"log {by}")
            self.assertEqual((read_page(f"log {by}").now(), len(read_page(f"log {by}"))), (Web(by), 0))
        log = Log(9)
        log.do(("by", 3))
        self.assertEqual(page(log), "log 9\nby 3")
        told = read_page("log 9\nby 3")
        self.assertEqual((told.as_of(0), told.now()), (Web(9), Web(3)))

    def test_what_was_taken_back_is_not_written(self):
        log = log_of_text()
        for count in reversed(range(len(ENTRIES))):
            log.undo()
            self.assertEqual(page(log), "\n".join(LINES[:count + 1]))
        log.redo()
        self.assertEqual(page(log), "\n".join(LINES[:2]))
        self.assertEqual(log.redo(), ENTRIES[1][0])

    def test_nothing_to_do_again(self):
        log = log_of_text()
        log.undo()
        told = read_page(page(log))
        self.check_refused(NothingBack, {}, told.redo)
        for entry, line in ENTRIES[-2::-1]:
            self.assertEqual(told.undo(), entry)
        self.check_refused(NothingBack, {}, told.undo)

    def test_many_logs_are_read_back(self):
        rng = random.Random(39)
        lengths = []
        for _ in range(300):
            log = random_log(rng)
            text = page(log)
            told = read_page(text)
            self.assertEqual((told.deeds(), repr(told.deeds())), (log.deeds(), repr(log.deeds())))
            self.assertEqual([told.as_of(count) for count in range(len(told) + 1)],
                             [log.as_of(count) for count in range(len(log) + 1)])
            self.assertEqual(page(told), text)
            self.check_refused(NothingBack, {}, told.redo)
            lengths.append(len(log))
        self.assertGreater(max(lengths), 10)


class Refused(TextCase):
    lines, read, write = LINES, staticmethod(read_page), staticmethod(page)

    def test_first_line(self):
        for line in ("", "log", "log ", "log 0", "log 1001", "log -1", "log 999999999", "log 50 50", "log  50",
                     " log 50", "log 50 ", "Log 50", "by 50", "50", "log -", "logs 50", "log 50; by 50", "log a",
                     "moment sail", "page 50", "log 50\r", *[f"log {number}" for number in NO_FIGURES]):
            self.check_line(0, line)
        self.check(0, LINES[1:])

    def test_ends_of_lines(self):
        self.check_ends_of_lines()
        self.check_refused(BadText, {"row": 1}, read_page, "log 9\n")

    def test_blanks(self):
        self.check_blanks()

    def test_one_sign_spoilt(self):
        self.check_signs(random.Random(40))

    def test_the_first_line_stands_once(self):
        for row in range(1, len(LINES) + 1):
            self.check(row, [*LINES[:row], "log 50", *LINES[row:]])

    def test_words_more_or_fewer(self):
        for row, line in enumerate(LINES):
            words = line.split(" ")
            for count in range(len(words)):
                self.check_line(row, " ".join(words[:count] + words[count + 1:]))
                if not words[count - 1].endswith(";"):
                    self.check_line(row, " ".join(words[:count]))
            for more in ("-", "0", "1", "a", "sail", "", ";", "; "):
                self.check_line(row, f"{line} {more}")

    def test_between_the_deeds_of_a_dealing(self):
        for sign in (";", " ; ", ";  ", " ;", ";\t", ", ", "; ; ", ";; ", ": ", " "):
            self.check_line(2, LINES[2].replace("; ", sign))
        for row, line in enumerate(LINES[1:], 1):
            self.check_line(row, f"{line};")
            self.check_line(row, f"{line}; ")
            self.check_line(row, f"; {line}")
            self.check_line(row, f";{line}")

    def test_other_words(self):
        for word in ("", "Moment", "moments", "log", "web", "undo", "redo", "wait", "-", "do", "deal"):
            self.check_line(1, f"{word} sail")
            self.check_line(1, word)
            self.check_line(1, f"moment sail; {word} dine")

    def test_numbers(self):
        for number in NO_FIGURES:
            self.check_line(6, f"by {number}")
            self.check_line(7, f"untie {number}")
            self.check_line(3, f"span rain start {number} 1000 0")
            self.check_line(3, f"span rain start 1 {number} 0")
            self.check_line(2, f"moment dine; by {number}")
            if number != "-":
                self.check_line(3, f"span rain start 1 2 {number}")
                self.check_line(4, f"tie land dine {number} -")
                self.check_line(4, f"tie land dine - {number}")

    def test_names(self):
        for name in NO_WORDS:
            self.check_line(1, f"moment {name}")
            self.check_line(3, f"span {name} start 1 2 0")
            self.check_line(3, f"span rain {name} 1 2 0")
            self.check_line(4, f"tie {name} dine 0 9")
            self.check_line(4, f"tie land {name} 0 9")
            self.check_line(10, f"without {name}")
            self.check_line(2, f"moment dine; moment {name}; by 3")

    def test_deeds_that_are_refused_where_they_stand(self):
        for row, lines in ((1, ["moment start", "by 0", "by 1001", "by -5", "untie 0", "without sail", "tie a b 0 9",
                                "span land sail 3 7 2"]),
                           (2, ["moment sail"]),
                           (4, ["span land sail 3 7 2", "span x land 1 2 0", "span x sail 2 1 0", "span x sail 0 1 0",
                                "span x sail 1 1001 0", "span x sail 1 2 1001", "span x sail 1 2 -1",
                                "without sail", "untie 0"]),
                           (5, ["tie dine dine 0 9", "tie land dine - -", "tie land dine 3 2", "tie land dine -1001 0",
                                "tie land x 0 9", "untie 1", "untie -1", "without land", "without start",
                                "without x"])):
            for line in lines:
                self.check_line(row, line)
                self.check_line(row, f"by 9; {line}")
                self.check_line(row, f"{line}; by 9")
                self.check_line(row, f"moment x; {line}; by 9" if " x " not in line and line != "without x" else line)

    def test_each_place_of_a_dealing(self):
        good = ["moment p", "moment q", "by 3"]
        read_page("\n".join(["log 9", "; ".join(good)]))
        for at in range(4):
            for line in ("moment P", "moment start", "moment", "", "odd", "by 0", "by 01", "untie 0", "moment r "):
                self.check(1, ["log 9", "; ".join([*good[:at], line, *good[at:]]), "moment a"])

    def test_lines_left_out_and_exchanged(self):
        self.check(1, [LINES[0], *LINES[2:]])
        self.check(1, [LINES[0], LINES[2], LINES[1], *LINES[3:]])
        self.check(3, [*LINES[:2], LINES[3], LINES[4], LINES[2]])
        for row in (1, 2, 3, 9, 10):
            self.check(row + 1, [*LINES[:row + 1], *LINES[row:]])

    def test_full(self):
        lines = ["log 9", *[f"moment {name}" for name in "abcdefghij"]]
        read_page("\n".join(lines))
        self.check(11, [*lines, "moment k"])
        self.check(11, [*lines, "by 8; moment k", "by 7"])


if __name__ == "__main__":
    unittest.main()
