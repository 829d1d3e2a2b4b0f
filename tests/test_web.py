"""Points [2] to [8]: webs."""

import copy
import itertools
import unittest

from tidewaiter.errors import BadBy, BadLate, BadLength, BadName, BadTie, Full
from tidewaiter.errors import NoMoment, NoPoint, NoTie, Taken, Used
from tidewaiter.web import BY, Web
from helpers import HUGE, NO_NAMES, TRUTHS, Case, letters, state, with_moments

NOT_FROM_1_TO_1000 = (0, 1001, -1, -1000, HUGE, -HUGE, *TRUTHS, None, "5", [5], 5.0)


def small_web():
    """start, moments a and b, a heard end c, an end d never heard, two ties."""
    web = with_moments(["a", "b"]).with_span("c", "a", 2, 5, late=1).with_span("d", "start", 1, 3, late=None)
    return web.with_tie("c", "b", least=0, most=4).with_tie("start", "d", most=9)


def full_spans(web=None):
    web = Web() if web is None else web
    for name in ("w", "x", "y", "z"):
        web = web.with_span(name, "start", 1, 2)
    return web


def full_ties(count=40):
    web = with_moments(["a", "b"])
    for at in range(count):
        web = web.with_tie("a", "b", least=at)
    return web


class ByAndMoments(Case):
    def test_by(self):
        self.assertEqual(BY, 100)
        self.assertEqual(Web().by, 100)
        for by in (1, 2, 999, 1000):
            self.assertEqual(Web(by).by, by)
            self.assertEqual(Web(by=by).by, by)
            self.assertEqual(Web().with_by(by).by, by)

    def test_a_new_web_is_bare(self):
        self.assertEqual(state(Web(7)), (7, [], [], [], ["start"], 1, "Web(1 points, 0 ties, by 7)"))

    def test_bad_by(self):
        web = small_web()
        before = state(web)
        for by in NOT_FROM_1_TO_1000:
            self.check_refused(BadBy, {"by": by}, Web, by)
            self.check_refused(BadBy, {"by": by}, web.with_by, by)
        self.assertEqual(state(web), before)

    def test_with_by_keeps_all_else(self):
        web = small_web()
        before = state(web)
        other = web.with_by(1)
        self.assertEqual((other.by, other.moments(), other.spans(), other.ties()),
                         (1, web.moments(), web.spans(), web.ties()))
        self.assertEqual(state(web), before)

    def test_moments_stand_behind_each_other(self):
        web = Web().with_moment("b").with_moment("abcdefgh").with_moment("z").with_moment("a")
        self.assertEqual(web.moments(), ["b", "abcdefgh", "z", "a"])

    def test_bad_names(self):
        for name in NO_NAMES:
            for web in (Web(), small_web()):
                before = state(web)
                self.check_refused(BadName, {"name": name}, web.with_moment, name)
                self.check_refused(BadName, {"name": name}, web.with_span, name, "start", 1, 2)
                self.assertEqual(state(web), before)

    def test_every_small_letter_is_a_name(self):
        for letter in letters(26):
            self.assertEqual(Web().with_moment(letter).moments(), [letter])
            self.assertEqual(Web().with_span(letter * 8, "start", 1, 1).points(), ["start", letter * 8])

    def test_taken(self):
        web = small_web()
        for name in ("start", "a", "b", "c", "d"):
            self.check_refused(Taken, {"name": name}, web.with_moment, name)
            self.check_refused(Taken, {"name": name}, web.with_span, name, "start", 1, 2)

    def test_ten_moments_and_one_more(self):
        web = with_moments(letters(10))
        self.assertEqual(web.moments(), letters(10))
        before = state(web)
        self.check_refused(Full, {"most": 10}, web.with_moment, "k")
        self.check_refused(Taken, {"name": "a"}, web.with_moment, "a")
        self.check_refused(Taken, {"name": "start"}, web.with_moment, "start")
        self.check_refused(BadName, {"name": "K"}, web.with_moment, "K")
        self.assertEqual(state(web), before)
        self.assertEqual(web.without("a").with_moment("k").moments(), letters(11)[1:])

    def test_spans_do_not_count_as_moments(self):
        web = full_spans(with_moments(letters(10)))
        self.assertEqual(len(web), 15)
        self.check_refused(Full, {"most": 10}, web.with_moment, "k")


class Spans(Case):
    def test_span_as_told(self):
        web = with_moments(["a"]).with_span("b", "a", 2, 5).with_span("c", "start", 3, 3, late=None)
        self.assertEqual(web.spans(), [("b", "a", 2, 5, 0), ("c", "start", 3, 3, None)])
        self.assertEqual(web.moments(), ["a"])

    def test_all_by_name(self):
        web = Web().with_span(end="b", begin="start", low=1, high=2, late=3)
        self.assertEqual(web.spans(), [("b", "start", 1, 2, 3)])

    def test_late_by_its_name_alone(self):
        with self.assertRaises(TypeError):
            Web().with_span("b", "start", 1, 2, 3)

    def test_begins(self):
        web = small_web()
        for begin in ("start", "a", "b"):
            self.assertEqual(web.with_span("e", begin, 1, 2).spans()[-1], ("e", begin, 1, 2, 0))
        before = state(web)
        for begin in ("c", "d", "e", "f", "Start", *NO_NAMES):
            self.check_refused(NoMoment, {"name": begin}, web.with_span, "e", begin, 1, 2)
        self.assertEqual(state(web), before)

    def test_lengths(self):
        for low, high in ((1, 1), (1, 1000), (1000, 1000), (2, 3)):
            self.assertEqual(Web().with_span("e", "start", low, high).spans(), [("e", "start", low, high, 0)])

    def test_bad_lengths(self):
        web = small_web()
        before = state(web)
        wrong = [(low, 1000) for low in NOT_FROM_1_TO_1000] + [(1, high) for high in NOT_FROM_1_TO_1000]
        for low, high in wrong + [(2, 1), (1000, 999), (1000, 1), (1001, 1001), (0, 0), (True, True), (None, None)]:
            self.check_refused(BadLength, {"low": low, "high": high}, web.with_span, "e", "a", low, high)
        self.assertEqual(state(web), before)

    def test_late(self):
        for late in (0, 1, 999, 1000, None):
            self.assertEqual(Web().with_span("e", "start", 1, 2, late=late).spans(), [("e", "start", 1, 2, late)])

    def test_bad_late(self):
        web = small_web()
        before = state(web)
        for late in (-1, 1001, HUGE, -HUGE, *TRUTHS, "0", "-", [0], 0.0):
            self.check_refused(BadLate, {"late": late}, web.with_span, "e", "a", 1, 2, late=late)
        self.assertEqual(state(web), before)

    def test_four_spans_and_one_more(self):
        web = full_spans()
        self.assertEqual([span[0] for span in web.spans()], ["w", "x", "y", "z"])
        before = state(web)
        self.check_refused(Full, {"most": 4}, web.with_span, "a", "start", 1, 2)
        self.assertEqual(state(web), before)
        self.assertEqual([span[0] for span in web.without("x").with_span("a", "start", 1, 2).spans()],
                         ["w", "y", "z", "a"])

    def test_moments_do_not_count_as_spans(self):
        self.assertEqual(len(full_spans(with_moments(letters(10))).spans()), 4)

    def test_the_refusal_told_first_goes_first(self):
        # Every choice of right and wrong arguments, in a web that has room and in a full one.
        wrong = [("end", ("a", "Bad", "start"), (None, BadName, Taken)),
                 ("begin", ("start", "nowhere"), (None, NoMoment)),
                 ("low", (1, 0), (None, BadLength)),
                 ("high", (2, 1001), (None, BadLength)),
                 ("late", (0, -1), (None, BadLate))]
        fields = {BadName: ("end",), Taken: ("end",), NoMoment: ("begin",), BadLength: ("low", "high"),
                  BadLate: ("late",)}
        rows = [list(zip(worths, kinds)) for name, worths, kinds in wrong]
        for choice in itertools.product(*rows):
            named = {row[0]: worth for row, (worth, kind) in zip(wrong, choice)}
            due = [kind for worth, kind in choice if kind is not None]
            for web, last in ((Web(), []), (full_spans(), [Full])):
                before = state(web)
                if not due + last:
                    self.assertEqual(len(web.with_span(**named)), 2)
                    continue
                kind = (due + last)[0]
                told = {"most": 4} if kind is Full else {
                    field: named[name] for field, name in zip(
                        ("low", "high") if kind is BadLength else ("late",) if kind is BadLate else ("name",),
                        fields[kind])}
                self.check_refused(kind, told, web.with_span, **named)
                self.assertEqual(state(web), before)


class Ties(Case):
    def test_tie_as_told(self):
        web = small_web().with_tie("d", "start", least=-9, most=-1)
        self.assertEqual(web.ties(), [("c", "b", 0, 4), ("start", "d", None, 9), ("d", "start", -9, -1)])

    def test_all_by_name(self):
        web = small_web().with_tie(most=2, least=1, other="b", one="a")
        self.assertEqual(web.ties()[-1], ("a", "b", 1, 2))

    def test_bounds_by_name_alone(self):
        for bounds in ((1,), (1, 2)):
            with self.assertRaises(TypeError):
                small_web().with_tie("a", "b", *bounds)

    def test_any_two_points(self):
        web = small_web()
        for one, other in itertools.permutations(web.points(), 2):
            self.assertEqual(web.with_tie(one, other, least=1).ties()[-1], (one, other, 1, None))

    def test_no_point(self):
        web = small_web()
        before = state(web)
        for name in ("e", "startt", "Start", *NO_NAMES):
            self.check_refused(NoPoint, {"name": name}, web.with_tie, name, "a", most=1)
            self.check_refused(NoPoint, {"name": name}, web.with_tie, "a", name, most=1)
            self.check_refused(NoPoint, {"name": name}, web.with_tie, name, "f")
            self.check_refused(NoPoint, {"name": name}, web.with_tie, name, name, most=2000)
            self.check_refused(NoPoint, {"name": name}, web.with_tie, "a", name)
        self.assertEqual(state(web), before)

    def test_one_point_twice(self):
        for name in small_web().points():
            for least, most in ((0, 0), (None, 1), (1, None), (-1000, 1000)):
                self.check_refused(BadTie, {"least": least, "most": most}, small_web().with_tie, name, name,
                                   least=least, most=most)

    def test_good_bounds(self):
        for least, most in ((-1000, 1000), (-1000, -1000), (1000, 1000), (0, 0), (-3, 2), (5, 5), (None, 0),
                            (None, -1000), (None, 1000), (0, None), (-1000, None), (1000, None)):
            web = small_web().with_tie("a", "b", least=least, most=most)
            self.assertEqual(web.ties()[-1], ("a", "b", least, most))

    def test_bounds_left_out(self):
        self.assertEqual(small_web().with_tie("a", "b", least=3).ties()[-1], ("a", "b", 3, None))
        self.assertEqual(small_web().with_tie("a", "b", most=3).ties()[-1], ("a", "b", None, 3))
        self.check_refused(BadTie, {"least": None, "most": None}, small_web().with_tie, "a", "b")

    def test_bad_bounds(self):
        web = small_web()
        before = state(web)
        bad = (-1001, 1001, HUGE, -HUGE, *TRUTHS, "1", [1], 1.0)
        wrong = [(None, None), (1, 0), (1000, -1000), (0, -1), (-999, -1000)]
        wrong += [(worth, other) for worth in bad for other in (None, -1000, 0, 1000)]
        wrong += [(other, worth) for worth in bad for other in (None, -1000, 0, 1000)]
        for least, most in wrong + list(itertools.product(bad[:6], bad[:6])):
            self.check_refused(BadTie, {"least": least, "most": most}, web.with_tie, "a", "b",
                               least=least, most=most)
        self.assertEqual(state(web), before)

    def test_forty_ties_and_one_more(self):
        web = full_ties()
        self.assertEqual(web.ties(), [("a", "b", at, None) for at in range(40)])
        before = state(web)
        self.check_refused(Full, {"most": 40}, web.with_tie, "a", "b", least=1)
        self.check_refused(BadTie, {"least": 2, "most": 1}, web.with_tie, "a", "b", least=2, most=1)
        self.check_refused(BadTie, {"least": 1, "most": None}, web.with_tie, "a", "a", least=1)
        self.check_refused(NoPoint, {"name": "z"}, web.with_tie, "a", "z", least=1)
        self.check_refused(NoPoint, {"name": "y"}, web.with_tie, "y", "z", least=2, most=1)
        self.assertEqual(state(web), before)
        self.assertEqual(len(web.without_tie(0).with_tie("b", "a", most=1).ties()), 40)


class Without(Case):
    def test_no_point(self):
        web = small_web()
        before = state(web)
        for name in ("start", "e", "Start", "aa", *NO_NAMES):
            self.check_refused(NoPoint, {"name": name}, web.without, name)
        self.assertEqual(state(web), before)

    def test_start_is_no_point_even_where_it_is_used(self):
        web = with_moments(["a"]).with_span("b", "start", 1, 2).with_tie("start", "a", most=3)
        self.check_refused(NoPoint, {"name": "start"}, web.without, "start")

    def test_used(self):
        web = small_web()
        before = state(web)
        for name in ("a", "b", "c", "d"):
            self.check_refused(Used, {"name": name}, web.without, name)
        self.assertEqual(state(web), before)

    def test_used_by_one_thing_alone(self):
        web = with_moments(["a", "b"]).with_span("c", "start", 1, 2)
        for name in ("a", "b", "c"):
            for one, other in ((name, "start"), ("start", name)):
                tied = web.with_tie(one, other, most=1)
                self.check_refused(Used, {"name": name}, tied.without, name)
                self.assertEqual(tied.without_tie(0).without(name).points(),
                                 [point for point in web.points() if point != name])
        begun = web.with_span("d", "a", 1, 2, late=None)
        self.check_refused(Used, {"name": "a"}, begun.without, "a")
        self.assertEqual(begun.without("d"), web)

    def test_each_moment_and_span(self):
        web = with_moments(["a", "b", "c"], 7).with_span("d", "b", 1, 2).with_span("e", "start", 3, 4, late=None)
        web = web.with_span("f", "b", 5, 6).with_tie("b", "start", least=-7)
        before = state(web)
        self.assertEqual(web.without("a").moments(), ["b", "c"])
        self.assertEqual(web.without("c").moments(), ["a", "b"])
        for at, name in enumerate("def"):
            other = web.without(name)
            self.assertEqual(other.spans(), web.spans()[:at] + web.spans()[at + 1:])
            self.assertEqual((other.by, other.moments(), other.ties()), (7, web.moments(), web.ties()))
        self.assertEqual(state(web), before)
        self.assertEqual(web.without("a").with_moment("a").moments(), ["b", "c", "a"])

    def test_without_tie(self):
        web = full_ties(3)
        before = state(web)
        for at in range(3):
            other = web.without_tie(at)
            self.assertEqual(other.ties(), web.ties()[:at] + web.ties()[at + 1:])
            self.assertEqual((other.by, other.points()), (web.by, web.points()))
        self.assertEqual(web.without_tie(at=1), web.without_tie(1))
        self.assertEqual(state(web), before)

    def test_no_tie(self):
        for count in (0, 1, 2, 40):
            web = full_ties(count)
            before = state(web)
            for at in (-1, -2, -count, count, count + 1, HUGE, -HUGE, *TRUTHS, None, "0", [0], 0.0):
                if count and at == 0 and type(at) is int:
                    continue
                self.check_refused(NoTie, {"at": at}, web.without_tie, at)
            self.assertEqual(state(web), before)


class Telling(Case):
    def test_lists_in_their_order(self):
        web = small_web()
        self.assertEqual(web.moments(), ["a", "b"])
        self.assertEqual(web.spans(), [("c", "a", 2, 5, 1), ("d", "start", 1, 3, None)])
        self.assertEqual(web.ties(), [("c", "b", 0, 4), ("start", "d", None, 9)])
        self.assertEqual(web.points(), ["start", "a", "b", "c", "d"])

    def test_points_have_moments_ahead_of_ends(self):
        web = Web().with_span("e", "start", 1, 2).with_moment("z").with_span("c", "z", 1, 2).with_moment("a")
        self.assertEqual(web.points(), ["start", "z", "a", "e", "c"])

    def test_len_and_repr(self):
        self.assertEqual(len(Web()), 1)
        self.assertEqual(repr(Web()), "Web(1 points, 0 ties, by 100)")
        self.assertEqual(len(small_web()), 5)
        self.assertEqual(repr(small_web().with_by(9)), "Web(5 points, 2 ties, by 9)")
        self.assertEqual(repr(with_moments(["a", "b"]).with_tie("a", "b", most=1).with_tie("b", "a", most=1)),
                         "Web(3 points, 2 ties, by 100)")

    def test_told_lists_are_made_anew(self):
        web = small_web()
        before = copy.deepcopy(state(web))
        for ask in (web.moments, web.spans, web.ties, web.points):
            for spoil in (list.clear, list.reverse, lambda told: told.append("x"), lambda told: told.pop(0)):
                self.assertIs(type(ask()), list)
                spoil(ask())
                self.assertEqual(state(web), before)
        for row in web.spans() + web.ties():
            self.assertIs(type(row), tuple)

    def test_deeds_leave_the_web_as_it_was(self):
        web = small_web().with_moment("z")
        before = state(web)
        others = [web.with_by(5), web.with_moment("e"), web.with_span("e", "z", 1, 2),
                  web.with_tie("a", "b", least=1), web.without("z"), web.without_tie(1)]
        for other in others:
            self.assertIs(type(other), Web)
            self.assertNotEqual(other, web)
        self.assertEqual(state(web), before)

    def test_nothing_handed_in_is_changed(self):
        thing = ["a", "b"]
        web = small_web()
        for call in (lambda: Web(thing), lambda: web.with_moment(thing), lambda: web.with_span("e", thing, 1, 2),
                     lambda: web.with_span("e", "a", thing, thing), lambda: web.with_span("e", "a", 1, 2, late=thing),
                     lambda: web.with_tie(thing, thing, most=1), lambda: web.with_tie("a", "b", least=thing),
                     lambda: web.without(thing), lambda: web.without_tie(thing)):
            with self.assertRaises((ValueError, LookupError)):
                call()
            self.assertEqual(thing, ["a", "b"])


class Equality(Case):
    def test_equal(self):
        one, other = small_web(), small_web()
        self.assertTrue(one == other and other == one and one == one)
        self.assertFalse(one != other or other != one)
        self.assertEqual(Web(), Web(100))
        self.assertEqual(one, one.with_by(3).with_by(100))
        self.assertEqual(one, one.with_moment("z").without("z"))

    def test_by_alone(self):
        self.check_apart(small_web(), small_web().with_by(99))
        self.check_apart(Web(1), Web(2))

    def test_moments_alone(self):
        self.check_apart(with_moments(["a", "b"]), with_moments(["b", "a"]))
        self.check_apart(with_moments(["a", "b"]), with_moments(["a", "c"]))
        self.check_apart(with_moments(["a", "b"]), with_moments(["a"]))

    def test_spans_alone(self):
        web = with_moments(["a", "b"])
        rows = [("e", "a", 1, 2, 0), ("f", "a", 1, 2, 0), ("e", "b", 1, 2, 0), ("e", "a", 2, 2, 0),
                ("e", "a", 1, 3, 0), ("e", "a", 1, 2, 1), ("e", "a", 1, 2, None)]
        webs = [web] + [web.with_span(*row[:4], late=row[4]) for row in rows]
        for one, other in itertools.combinations(webs, 2):
            self.check_apart(one, other)
        self.check_apart(web.with_span("e", "a", 1, 2).with_span("f", "a", 1, 2),
                         web.with_span("f", "a", 1, 2).with_span("e", "a", 1, 2))

    def test_ties_alone(self):
        web = with_moments(["a", "b"])
        rows = [("a", "b", 0, 1), ("b", "a", 0, 1), ("start", "b", 0, 1), ("a", "start", 0, 1), ("a", "b", None, 1),
                ("a", "b", 0, None), ("a", "b", 1, 1), ("a", "b", 0, 2)]
        webs = [web] + [web.with_tie(*row[:2], least=row[2], most=row[3]) for row in rows]
        for one, other in itertools.combinations(webs, 2):
            self.check_apart(one, other)
        self.check_apart(web.with_tie("a", "b", most=1).with_tie("a", "b", most=2),
                         web.with_tie("a", "b", most=2).with_tie("a", "b", most=1))

    def test_nothing_else_is_equal(self):
        web = small_web()
        for other in (web.moments(), web.points(), [], "", repr(web), None, 5, len(web), 100, True, (), {}, object(),
                      (web.by, web.moments(), web.spans(), web.ties())):
            self.check_apart(web, other)
        self.check_apart(Web(), ["start"])


if __name__ == "__main__":
    unittest.main()
