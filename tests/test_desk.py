"""Point [40]: the desk."""

import random
import unittest
from unittest import mock

from tidewaiter.asks import culprits, deafest, soonest, widest
from tidewaiter.desk import Desk
from tidewaiter.errors import BadBy, Missing, NothingBack, TideError
from tidewaiter.log import Log
from tidewaiter.pages import page
from tidewaiter.settle import settled, steered
from tidewaiter.texts import write_web
from helpers import HUGE, NO_FIGURES, NO_WORDS, TRUTHS, Case, random_deed

QUESTIONS = ("undo", "redo", "web", "soonest", "culprits")


def asked(*lines, by=100):
    """A desk to which these lines were said, each of them granted."""
    desk = Desk(by)
    for line in lines:
        assert desk.say(line) in ("yes", "no"), (line, desk.say(line))
    return desk


def line_of(deeds):
    return "; ".join(" ".join("-" if thing is None else str(thing) for thing in deed) for deed in deeds)


def standing(desk):
    """The web, and all that can be undone and done again; the desk stands again as it did."""
    undone, redone = [], []
    while not (told := desk.say("undo")).startswith("refused"):
        undone.append(told)
    first = desk.say("web")
    while not (told := desk.say("redo")).startswith("refused"):
        redone.append(told)
    last = desk.say("web")
    for _ in range(len(redone) - len(undone)):
        desk.say("undo")
    return first, undone, redone, last, desk.say("web")


class Saying(Case):
    def check(self, desk, *pairs):
        for line, told in pairs:
            self.assertEqual(desk.say(line), told, line)

    def check_refused_lines(self, word, lines, desk):
        """The lines are refused with this word, and all stands as it did."""
        before = standing(desk)
        for line in lines:
            self.assertEqual(desk.say(line), f"refused {word}", repr(line))
        self.assertEqual(standing(desk), before)

    def test_last_ticks(self):
        self.assertEqual(Desk().say("web"), "by 100")
        for by in (1, 77, 1000):
            self.assertEqual((Desk(by).say("web"), Desk(by=by).say("web")), (f"by {by}", f"by {by}"))
        for by in (0, 1001, -1, HUGE, None, "9", 9.0, mock.ANY, *TRUTHS):
            self.check_refused(BadBy, {"by": by}, Desk, by)

    def test_deeds(self):
        self.check(Desk(by=20), ("moment a", "yes"), ("moment b", "yes"), ("span e a 3 7 2", "yes"),
                   ("tie e b 0 9", "yes"), ("tie e b - 1", "no"), ("by 40", "no"), ("untie 1", "yes"), ("by 1", "no"),
                   ("by 7", "yes"), ("moment c", "yes"), ("without c", "yes"), ("span f start 1 1 -", "yes"),
                   ("tie start f 2 -", "no"), ("web", "by 7\nmoment a\nmoment b\nspan e a 3 7 2\nspan f start 1 1 -\n"
                                               "tie e b 0 9\ntie start f 2 -"))

    def test_dealings(self):
        self.check(Desk(), ("moment a; moment b", "yes"), ("tie a b 0 -; tie a b - -1", "no"), ("untie 0; by 9", "yes"),
                   ("web", "by 9\nmoment a\nmoment b\ntie a b - -1"), ("undo", "untie 0; by 9"),
                   ("undo", "tie a b 0 -; tie a b - -1"), ("redo", "tie a b 0 -; tie a b - -1"),
                   ("web", "by 100\nmoment a\nmoment b\ntie a b 0 -\ntie a b - -1"))

    def test_by_name(self):
        self.assertEqual(Desk().say(line="moment a"), "yes")
        self.assertIs(type(Desk().say("odd")), str)

    def test_undo_and_redo(self):
        lines = ["moment a", "span e a 3 7 -", "tie start a -4 9", "tie a e 1 -; untie 0", "by 9", "untie 0",
                 "without e"]
        desk = asked(*lines)
        for line in reversed(lines):
            self.check(desk, ("undo", line))
        self.check(desk, ("undo", "refused NothingBack"), ("web", "by 100"))
        for line in lines:
            self.check(desk, ("redo", line))
        self.check(desk, ("redo", "refused NothingBack"), ("web", "by 9\nmoment a"))

    def test_a_granted_deed_ends_what_can_be_done_again(self):
        desk = asked("moment a", "moment b")
        self.check(desk, ("undo", "moment b"), ("moment c", "yes"), ("redo", "refused NothingBack"),
                   ("undo", "moment c"), ("by 3; by 4", "yes"), ("redo", "refused NothingBack"))

    def test_what_is_refused_does_not(self):
        desk = asked("moment a", "moment b", "span e a 1 2 0")
        self.check(desk, ("undo", "span e a 1 2 0"), ("undo", "moment b"))
        for line in ("moment a", "by 0", "odd", "", "moment b; moment b", "untie 0", "wait x y", "until e a",
                     "widest e", "web ", "soonest", "culprits", "web", "wait a start"):
            desk.say(line)
        self.check(desk, ("redo", "moment b"), ("redo", "span e a 1 2 0"), ("redo", "refused NothingBack"))

    def test_tables(self):
        desk = asked("moment sail", "moment dine", "span land sail 3 7 2", "tie land dine 0 9", "span rain start 1 2 -",
                     by=50)
        self.check(desk, ("wait land dine", "7"), ("wait dine land", "2"), ("wait sail start", "0"),
                   ("wait dine sail", "-5"), ("wait start start", "0"), ("until land dine", "-7"),
                   ("until land land", "-9"), ("until land start", "43"))
        self.check_refused_lines("NoPoint", ["wait rain dine", "wait dine rain", "wait x dine", "wait dine x",
                                             "until land rain", "until land x"], desk)
        self.check_refused_lines("NoSpan", ["until rain dine", "until dine land", "until start land", "until x y",
                                            "until x dine"], desk)

    def test_unsteered_ahead_of_what_the_table_refuses(self):
        desk = asked("moment a", "span e a 1 2 0", "tie start a 101 -")
        self.check_refused_lines("Unsteered", ["wait a start", "wait x a", "wait a x", "wait x y", "until e a",
                                               "until a e", "until x y", "until e x", "widest e", "deafest e",
                                               "soonest"], desk)
        self.check_refused_lines("NoSpan", ["widest a", "widest x", "deafest a", "deafest start"], desk)
        self.check_refused_lines("BadText", ["wait A a", "wait a", "until e", "until e a a", "wait a a1"], desk)

    def test_questions(self):
        desk = asked("moment sail", "moment dine", "span land sail 3 7 2", "tie land dine 0 9", by=50)
        self.check(desk, ("widest land", "50"), ("deafest land", "1000"), ("soonest", "7"), ("culprits", "none"),
                   ("span fog start 1 2 -", "yes"), ("widest fog", "1000"), ("deafest fog", "refused BadLate"),
                   ("tie land dine - 1", "no"), ("culprits", "0 1"), ("tie start sail 51 -", "no"),
                   ("culprits", "none"), ("deafest fog", "refused BadLate"), ("deafest land", "refused Unsteered"))

    def test_a_bare_desk(self):
        self.check(Desk(9), ("soonest", "1"), ("culprits", "none"), ("wait start start", "0"),
                   ("until e start", "refused NoSpan"), ("widest e", "refused NoSpan"),
                   ("deafest e", "refused NoSpan"), ("undo", "refused NothingBack"), ("redo", "refused NothingBack"),
                   ("without start", "refused NoPoint"), ("untie 0", "refused NoTie"), ("web", "by 9"))

    def test_each_refusal_of_a_deed(self):
        desk = asked("moment a", "moment b", "span e a 1 2 0", "tie a b 1 -")
        self.assertEqual((desk.say("moment c"), desk.say("undo")), ("yes", "moment c"))
        for word, lines in (
                ("BadBy", ["by 0", "by 1001", "by -1", "by 999999999", "by -999999999"]),
                ("Taken", ["moment a", "moment start", "moment e", "span a a 1 2 0", "span e a 1 2 0"]),
                ("NoMoment", ["span f e 1 2 0", "span f x 1 2 0"]),
                ("BadLength", ["span f a 2 1 0", "span f a 0 1 0", "span f a -1 1 0", "span f a 1 1001 0"]),
                ("BadLate", ["span f a 1 2 -1", "span f a 1 2 1001", "span f a 1 2 999999999"]),
                ("NoPoint", ["tie a x 1 2", "tie x a 1 2", "without x", "without start"]),
                ("BadTie", ["tie a a 1 2", "tie a b - -", "tie a b 2 1", "tie a b -1001 -", "tie a b - 1001",
                            "tie a b 999999999 -"]),
                ("Used", ["without a", "without b"]),
                ("NoTie", ["untie 1", "untie -1", "untie 999999999"])):
            self.check_refused_lines(word, lines, desk)
            self.check_refused_lines(word, [f"moment x; without x; {line}" for line in lines], desk)
            self.check_refused_lines(word, [f"{line}; by 0" for line in lines], desk)

    def test_full(self):
        desk = asked(*[f"moment {name}" for name in "abcdefghij"], *[f"span {name * 2} start 1 2 0" for name in "pqrs"],
                     *["tie a b - 5"] * 40)
        self.check_refused_lines("Full", ["moment k", "span tt start 1 2 0", "tie a b 0 -", "by 9; moment k"], desk)

    def test_odd_lines(self):
        lines = ["", " ", "odd", "Web", "webs", "web web", "web ", " web", "undo 1", "undo undo", "undo; undo", "undo;",
                 "redo a", "soonest a", "soonest 1", "culprits 0", "culprits none", "wait", "wait a", "wait a b c",
                 "wait  a b", "wait a  b", "wait a b ", " wait a b", "wait a,b", "wait a, b", "until", "until e",
                 "until e a b", "widest", "widest e e", "widest ", "widest e ", "deafest", "deafest e 3", "log 9",
                 "log", "page", "yes", "no", "none", "refused", "refused BadText", "moment", "moment a b", "moment a ",
                 " moment a", "moment  a", "moment\ta", "moment a\n", "moment x\nmoment y", "web\n", "\nweb",
                 "by", "by 1 2", "by  1", "by 1 ", "span", "span f a 1 2", "span f a 1 2 0 0", "tie", "tie a b 1",
                 "tie a b 1 2 3", "untie", "untie 0 0", "without", "without a b", "steered", "answer", "deeds",
                 "corners", "foreseen", "deaf", "may", "do a", "moment x;moment y", "moment x ; moment y", "moment x;",
                 "moment x; ", "; moment x", "moment x;  moment y", "moment x, moment y", "moment x; undo",
                 "moment x; web", "web; moment x", "moment x; odd", "moment x; log 9", "moment x; ; moment y",
                 "moment x; by", "moment x; moment Y", "\u00a0web", "moment\u00a0x"]
        desk = asked("moment a", "moment b", "span e a 1 2 0", "tie a b 1 -")
        desk.say("undo")
        self.check_refused_lines("BadText", lines, desk)

    def test_numbers_not_as_pages_have_them(self):
        desk = asked("moment a", "moment b", "span e a 1 2 0", "tie a b 1 -")
        for number in NO_FIGURES:
            lines = [f"by {number}", f"untie {number}", f"span f a {number} 1000 0", f"span f a 1 {number} 0",
                     f"moment x; by {number}", f"by {number}; by 0"]
            if number != "-":
                lines += [f"span f a 1 2 {number}", f"tie a b {number} -", f"tie a b - {number}"]
            self.check_refused_lines("BadText", lines, desk)

    def test_names_not_as_pages_have_them(self):
        desk = asked("moment a", "moment b", "span e a 1 2 0", "tie a b 1 -")
        for name in NO_WORDS:
            self.check_refused_lines("BadText", [
                f"moment {name}", f"without {name}", f"span {name} a 1 2 0", f"span f {name} 1 2 0",
                f"tie {name} b 1 2", f"tie a {name} 1 2", f"wait {name} a", f"wait a {name}", f"until {name} a",
                f"until e {name}", f"widest {name}", f"deafest {name}", f"moment x; moment {name}"], desk)

    def test_two_desks_are_apart(self):
        one, other = Desk(5), Desk(5)
        self.check(one, ("moment a", "yes"))
        self.check(other, ("web", "by 5"), ("undo", "refused NothingBack"))

    def test_many_desks_by_the_words(self):
        rng = random.Random(40)
        seen = set()
        for _ in range(60):
            by = rng.randint(1, 40)
            desk, log = Desk(by), Log(by)
            for _ in range(40):
                line, told = self.random_line(rng, log)
                seen.add(told.split(" ")[1] if told.startswith("refused") else line.split(" ")[0])
                self.assertEqual(desk.say(line), told, (line, page(log)))
                self.assertEqual(desk.say("web"), write_web(log.now()))
        for word in ("moment", "span", "tie", "by", "untie", "without", "undo", "redo", "wait", "until", "widest",
                     "deafest", "soonest", "culprits", "Unsteered", "NoSpan", "NoPoint", "BadLate", "NothingBack",
                     "Taken", "Used", "BadBy", "BadTie", "BadLength", "NoMoment", "NoTie"):
            self.assertIn(word, seen)

    def random_line(self, rng, log):
        """A line, and what is told of it by the words; the log goes along."""
        names = [*log.now().points(), *[span[0] for span in log.now().spans()] * 2, "x"]
        one, other = rng.choice(names), rng.choice(names)
        line = rng.choice([*QUESTIONS, "undo", f"wait {one} {other}", f"until {one} {other}", f"widest {one}",
                           f"deafest {one}", None, None, None, None, None, None, None, None])
        deeds = [random_deed(rng, log.now()) for _ in range(rng.choice([1, 1, 2]))]
        try:
            if line is None:
                line = line_of(deeds)
                return line, "yes" if steered(log.do(deeds[0]) if len(deeds) == 1 else log.deal(deeds)) else "no"
            return line, self.answer(log, *line.split(" "))
        except (TideError, Missing, NothingBack) as refusal:
            return line, f"refused {type(refusal).__name__}"

    def answer(self, log, word, *names):
        if word in ("undo", "redo"):
            done = getattr(log, word)()
            return line_of(done if isinstance(done, list) else [done])
        web = log.now()
        if word in ("wait", "until"):
            if not steered(web):
                return "refused Unsteered"
            table = settled(web)[1]
            return str((table.between if word == "wait" else table.until)(*names))
        if word == "web":
            return write_web(web)
        told = {"widest": widest, "deafest": deafest, "soonest": soonest, "culprits": culprits}[word](web, *names)
        return " ".join(map(str, told)) or "none" if word == "culprits" else str(told)


if __name__ == "__main__":
    unittest.main()
