"""What several test files share."""

import itertools
import random
import string
import unittest
from unittest import mock

from tidewaiter.errors import (BadNews, BadPlan, BadText, Done, NoMoment, NoSpan, Over, TooEarly, TooLate, Unbegun,
                               Unheard)
from tidewaiter.laying import bases, heard_spans
from tidewaiter.plans import need_plan
from tidewaiter.settle import settled
from tidewaiter.web import Web

HUGE = 10 ** 6000
TRUTHS = (True, False)
NO_NAMES = ("", "abcdefghi", "A", "aB", "a1", "1", "a b", " a", "a\n", "a-b", "a_b", "\u00e9", "\u00df", "\u0430",
            None, True, False, 0, 1, 97, b"a", ["a"], ("a",), {"a": 1}, {"a"}, object, mock.ANY)


def state(web):
    """All that a web tells, to hold it against what it tells later."""
    return (web.by, web.moments(), web.spans(), web.ties(), web.points(), len(web), repr(web))


def with_moments(names, by=100):
    web = Web(by)
    for name in names:
        web = web.with_moment(name)
    return web


def letters(count):
    return list(string.ascii_lowercase[:count])


def with_random_spans(rng, web, count, lengths, lates):
    """The web with spans e, f, .. more, of one to lengths ticks."""
    for name in "efgh"[:count]:
        low, high = sorted([rng.randint(1, lengths), rng.randint(1, lengths)])
        web = web.with_span(name, rng.choice(["start", *web.moments()]), low, high, late=rng.choice(lates))
    return web


def random_bounds(rng, size):
    """least and most of a tie, at least one of them told."""
    least, most = sorted([rng.randint(-size, size), rng.randint(-size, size)])
    return rng.choice([(least, most), (least, None), (None, most)])


def with_random_ties(rng, web, count, size):
    for _ in range(count if len(web) > 1 else 0):
        one, other = rng.sample(web.points(), 2)
        least, most = random_bounds(rng, size)
        web = web.with_tie(one, other, least=least, most=most)
    return web


def small_random_web(rng, most_ties=5):
    """One or two moments, one or two spans of one to three ticks, heard at once, late or never."""
    web = with_moments(letters(rng.randint(1, 2)), rng.randint(1, 6))
    web = with_random_spans(rng, web, rng.randint(1, 2), 3, (0, 0, 1, 2, None))
    return with_random_ties(rng, web, rng.randint(0, most_ties), 4)


def middling_random_web(rng):
    """Some moments, spans and ties."""
    web = with_moments(letters(rng.randint(0, 4)), rng.randint(1, 30))
    web = with_random_spans(rng, web, rng.randint(0, 4), 9, (0, 0, 0, 1, 3, 10, None))
    return with_random_ties(rng, web, rng.randint(0, 7), 15)


def answering_random_web(rng):
    """Spans whose ends are to be answered soon, so that the news count."""
    web = with_moments(letters(rng.randint(1, 2)), rng.randint(12, 40))
    web = with_random_spans(rng, web, rng.randint(1, 3), 9, (0, 0, 0, 1, 2, None))
    for end, begin, low, high, late in web.spans():
        web = web.with_moment(end * 2).with_tie(end, end * 2, least=rng.randint(-2, 1), most=rng.randint(1, 4))
    return with_random_ties(rng, web, rng.randint(0, 2), 15)


def any_random_web(rng):
    return rng.choice([small_random_web, middling_random_web, answering_random_web])(rng)


def settled_webs(rng, count, wanted, maker=any_random_web):
    """So many random webs with this answer, "yes" or "no", each with its table or paper."""
    found = 0
    while found < count:
        web = maker(rng)
        answer, proof = settled(web)
        if answer == wanted:
            found += 1
            yield web, proof


# What is written as no number, whatever the bounds.
NO_FIGURES = ("", "-", "-0", "--1", "+1", "01", "00", "-01", "1.0", "1e1", "0x1", "1_0", "a", "None", "True", "1-",
              "\u0661", "\u00b2", "\uff11", "1\t", "1\r", "1234567890", "-1234567890", "0000000001", "1" * 5000)
# What is written as no name.
NO_WORDS = ("", "-", "A", "aB", "abcdefghi", "a1", "1", "a_b", "a-b", "a.", "\u00e9", "\u00df", "\u0430", "a\t", "a\r",
            "a;", ";", "a,")


def done_to(web, deed):
    """The web behind a deed, by the words of point [37]."""
    word, *things = deed
    if word == "span":
        return web.with_span(*things[:4], late=things[4])
    if word == "tie":
        return web.with_tie(*things[:2], least=things[2], most=things[3])
    plain = {"by": web.with_by, "moment": web.with_moment, "without": web.without, "untie": web.without_tie}
    return plain[word](*things)


def random_deed(rng, web):
    """A deed that has the things of its word; it may be refused."""
    names = [*web.points(), *"abefx"]
    least, most = random_bounds(rng, 9)
    low = rng.randint(0, 4)
    return rng.choice([
        ("by", rng.choice([1, 9, 30, 1000, 0, 1001])), ("moment", rng.choice("abcdx")),
        ("span", rng.choice("efgh"), rng.choice(names), low, low + rng.randint(0, 3), rng.choice([0, 1, None, -1])),
        ("tie", rng.choice(names), rng.choice(names), least, most),
        ("without", rng.choice(names)), ("untie", rng.randint(-1, len(web.ties())))])


def random_part(rng, size=9):
    """An ours or a weather."""
    least, most = sorted([rng.randint(0, size), rng.randint(0, size)])
    return rng.choice([("ours", least, most), ("weather", least + 1, most + 1, rng.choice([0, 0, 1, 3, None]))])


def random_plan(rng, depth=4, words=("then", "beside", "within", "either"), widest=3):
    """Made as plans are, but it may have too many parts or readings."""
    if depth == 1 or rng.random() < 0.2:
        return random_part(rng)
    word = rng.choice(words)
    if word == "within":
        return (word, rng.randint(0, 30), random_plan(rng, depth - 1, words, widest))
    return (word, [random_plan(rng, depth - 1, words, widest) for _ in range(rng.randint(1, widest))])


def is_plan(plan):
    try:
        return need_plan(plan) is None
    except BadPlan:
        return False


def random_good_plan(rng, *args):
    while True:
        plan = random_plan(rng, *args)
        if is_plan(plan):
            return plan


def tie_holds(tie, ticks):
    one, other, least, most = tie
    behind = ticks[other] - ticks[one]
    return (least is None or least <= behind) and (most is None or behind <= most)


def do_nothing(tick, done, heard):
    return []


def by_plan(plan):
    """A keeper that does at each tick what a dict tells."""
    return lambda tick, done, heard: list(plan.get(tick, []))


def mixer(web, seed):
    """A keeper whose doings hang on all that it knows, in no way that is easy to foresee."""
    def keeper(tick, done, heard):
        rng = random.Random(repr((seed, tick, sorted(done.items()), sorted(heard.items()))))
        return [name for name in web.moments() if name not in done and rng.random() < 0.4]
    return keeper


def random_lengths(rng, web):
    """Lengths at their bounds, and between them."""
    return {end: rng.choice([low, high, rng.randint(low, high)]) for end, begin, low, high, late in web.spans()}


class Mirror:
    """A run by the words of points [21] to [25], to hold a waiter against."""

    def __init__(self, web):
        self.web, self.table, self.clock, self.told = web, settled(web)[1], 0, [("start", 0)]

    def copy(self):
        other = Mirror(Web())
        other.web, other.table, other.clock, other.told = self.web, self.table, self.clock, list(self.told)
        return other

    def ticks(self):
        return dict(self.told)

    def acted(self):
        return any(tick == self.clock and name in self.web.moments() for name, tick in self.told)

    def undone(self):
        return [name for name in self.web.moments() if name not in self.ticks()]

    def left(self):
        return [name for name in bases(self.web) if name not in self.ticks()]

    def may(self):
        return [name for name in self.undone() if self.may_do(name)]

    def may_do(self, x):
        ticks = self.ticks()
        for y in bases(self.web):
            if y in ticks and not self.clock >= ticks[y] - self.table.between(x, y):
                return False
            if y not in ticks and self.table.between(x, y) < 0:
                return False
        for k, b, low, high in heard_spans(self.web):
            wait = self.table.until(k, x)
            if k not in ticks and wait < 0 and not (b in ticks and self.clock >= ticks[b] - wait):
                return False
        return True

    def due(self, name):
        ticks = self.ticks()
        if name in ticks:
            return ticks[name]
        return min(tick + self.table.between(y, name) for y, tick in ticks.items())

    def must(self):
        return [name for name in self.undone() if self.due(name) <= self.clock]

    def unheard(self):
        ticks = self.ticks()
        return [end for end, begin, low, high in heard_spans(self.web)
                if begin in ticks and end not in ticks and ticks[begin] + high <= self.clock]

    def refusal(self, step):
        """The refusal of a step and its fields, None where it is granted."""
        if step[0] == "pass":
            return self.pass_refusal()
        return self.do_refusal(step[1]) if step[0] == "do" else self.hear_refusal(step[1])

    def pass_refusal(self):
        if not self.left():
            return Over, {"tick": self.clock}
        if self.must():
            return TooLate, {"name": self.must()[0], "tick": self.clock}
        if self.unheard():
            return Unheard, {"name": self.unheard()[0]}
        return None

    def do_refusal(self, name):
        if not isinstance(name, str) or name not in self.web.moments():
            return NoMoment, {"name": name}
        if name in self.ticks():
            return Done, {"name": name}
        if self.unheard():
            return Unheard, {"name": self.unheard()[0]}
        if not self.may_do(name):
            return TooEarly, {"name": name, "tick": self.clock}
        return None

    def hear_refusal(self, end):
        spans = {span[0]: span for span in heard_spans(self.web)}
        if not isinstance(end, str) or end not in spans:
            return NoSpan, {"name": end}
        if end in self.ticks():
            return Done, {"name": end}
        end, begin, low, high = spans[end]
        if begin not in self.ticks():
            return Unbegun, {"name": end}
        since = self.clock - self.ticks()[begin]
        if since < low or since > high:
            return BadNews, {"name": end, "tick": self.clock}
        if self.acted():
            return TooLate, {"name": end, "tick": self.clock}
        return None

    def take(self, step):
        if step[0] == "pass":
            self.clock += 1
        else:
            self.told.append((step[1], self.clock))

    def rest(self):
        """by, the moments, the spans and the ties of the rest."""
        ticks = self.ticks()
        spans = []
        for end, begin, low, high, late in self.web.spans():
            if late is not None and end in ticks:
                low = high = ticks[end] - ticks[begin] - late
            elif late is not None and begin in ticks:
                low = max(low, self.clock - ticks[begin] - late + self.acted())
            spans.append((end, begin, low, high, late))
        ties = [("start", name, tick, tick) for name, tick in self.told if name in self.web.moments()]
        ties += [("start", name, self.clock, None) for name in self.undone()]
        return self.web.by, self.web.moments(), spans, self.web.ties() + ties


def parts(web):
    return web.by, web.moments(), web.spans(), web.ties()


def take_step(waiter, step):
    return {"do": waiter.do, "hear": waiter.hear, "pass": waiter.pass_on}[step[0]](*step[1:])


def all_steps(web):
    return [("pass",)] + [(word, name) for word in ("do", "hear") for name in web.points()]


def standing(waiter):
    """All that a waiter tells, to hold it against what it tells later."""
    return (waiter.clock, waiter.told(), waiter.may(), waiter.must(), waiter.is_over(), len(waiter),
            [waiter.due(name) for name in waiter.web.moments()], state(waiter.web), state(waiter.rest()))


class Case(unittest.TestCase):
    def check_refused(self, kind, fields, call, *args, **named):
        """The call is refused with just this refusal and these fields."""
        with self.assertRaises(kind) as caught:
            call(*args, **named)
        error = caught.exception
        self.assertIs(type(error), kind)
        self.assertEqual(error.word, kind.__name__)
        for field, value in fields.items():
            # 1 == True, so the kinds are held against each other, too.
            self.assertIs(type(getattr(error, field)), type(value))
            self.assertTrue(getattr(error, field) == value, field)

    def check_apart(self, one, other):
        self.assertFalse(one == other)
        self.assertFalse(other == one)
        self.assertTrue(one != other)
        self.assertTrue(other != one)

    def check_step_refused(self, waiter, kind, fields, *step):
        """The step is refused so, and all stands as ahead of it."""
        before = standing(waiter)
        self.check_refused(kind, fields, take_step, waiter, step)
        self.assertEqual(standing(waiter), before)

    def check_stands(self, waiter, mirror):
        """A waiter tells all that it must by the words of the document."""
        self.assertEqual((waiter.clock, waiter.told(), len(waiter), waiter.is_over()),
                         (mirror.clock, mirror.told, len(mirror.told), not mirror.left()))
        self.assertEqual(waiter.web, mirror.web)
        self.assertEqual((waiter.may(), waiter.must()), (mirror.may(), mirror.must()))
        self.assertEqual([waiter.due(name) for name in waiter.web.moments()],
                         [mirror.due(name) for name in mirror.web.moments()])
        self.assertEqual(parts(waiter.rest()), mirror.rest())

    def check_kept(self, waiter):
        """At the end of a run the web is kept, whatever the lengths that are never heard."""
        web, ticks = waiter.web, dict(waiter.told())
        self.assertTrue(all(0 <= ticks[name] <= web.by for name in web.moments()))
        chosen = []
        for end, begin, low, high, late in web.spans():
            comes = range(ticks[begin] + low, ticks[begin] + high + 1)
            chosen.append([(end, tick) for tick in (comes if late is None else [ticks[end] - late])])
            self.assertTrue(late is None or ticks[end] - late in comes)
        for ends in itertools.product(*chosen):
            for tie in web.ties():
                self.assertTrue(tie_holds(tie, {**ticks, **dict(ends)}), (parts(web), ticks, tie))


class TextCase(Case):
    """Texts that are refused with the place of the first line that can't stand behind those ahead of it.

    lines are those of a good text, read reads a text, and write writes again what was read.
    """

    lines, read, write = [], None, None

    def check(self, row, lines):
        self.check_refused(BadText, {"row": row}, self.read, "\n".join(lines))

    def check_line(self, row, line):
        """A line that can't stand at a place, whatever stands behind it."""
        self.check(row, [*self.lines[:row], line, *self.lines[row + 1:]])
        self.check(row, [*self.lines[:row], line])
        self.check(row, [*self.lines[:row], line, "", "odd"])

    def check_blanks(self):
        for row, line in enumerate(self.lines):
            self.check_line(row, f" {line}")
            self.check_line(row, f"{line} ")
            self.check_line(row, f"{line}\r")
            for at in [at for at, sign in enumerate(line) if sign == " "]:
                for sign in ("  ", "\t", "\u00a0", "", "_"):
                    self.check_line(row, line[:at] + sign + line[at + 1:])

    def check_ends_of_lines(self):
        for text in ("", "\n", " ", "\n" + "\n".join(self.lines)):
            self.check_refused(BadText, {"row": 0}, self.read, text)
        for row in range(len(self.lines) + 1):
            self.check(row, [*self.lines[:row], "", *self.lines[row:]])
        for end in ("\r\n", "\r", "\v", "\f", "\u2028", "\x85", " ", "; "):
            self.check_refused(BadText, {"row": 0}, self.read, end.join(self.lines))

    def check_signs(self, rng):
        """Each sign of the text left out, put in or put for another one."""
        text, refused = "\n".join(self.lines), 0
        for at in range(len(text)):
            for sign in ("", *rng.sample("abst019 -+\n\t\u0661;A", 5)):
                for spoilt in (text[:at] + sign + text[at + 1:], text[:at] + sign + text[at:]):
                    refused += self.is_refused_by_prefixes(spoilt.split("\n"))
        self.assertGreater(refused, 1000)

    def is_refused_by_prefixes(self, lines):
        """Whether lines are refused, and then it is at the first one with which those ahead of it are no text."""
        good = [count for count in range(1, len(lines) + 1) if self.is_text("\n".join(lines[:count]))]
        self.assertEqual(good, list(range(1, len(good) + 1)))
        if len(good) < len(lines):
            self.check(len(good), lines)
        return len(good) < len(lines)

    def is_text(self, text):
        try:
            return self.write(self.read(text)) == text
        except BadText:
            return False
