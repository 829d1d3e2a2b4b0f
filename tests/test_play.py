"""Points [9], [27] and [28]: whole runs of a keeper with chosen lengths, and what is broken in them."""

import itertools
import random
import unittest
from unittest import mock

from tidewaiter.errors import BadKeeper, BadLength, NoSpan
from tidewaiter.play import broken, play
from tidewaiter.web import Web
from helpers import (HUGE, NO_NAMES, TRUTHS, Case, any_random_web, by_plan, do_nothing, mixer, random_lengths,
                     small_random_web, state, tie_holds, with_moments)


def three_spans():
    """e is heard as it comes, f two ticks late, g never."""
    web = with_moments("ab", 6).with_span("e", "start", 1, 3).with_span("f", "a", 1, 2, late=2)
    return web.with_span("g", "b", 2, 9, late=None)


class Recorder:
    """A keeper that writes down what it is handed, and what it tells."""

    def __init__(self, keeper):
        self.keeper, self.calls = keeper, []

    def __call__(self, tick, done, heard):
        told = self.keeper(tick, dict(done), dict(heard))
        self.calls.append((tick, dict(done), dict(heard), list(told)))
        return told


class Playing(Case):
    def test_tick_by_tick(self):
        keeper = Recorder(by_plan({1: ["a"], 3: ["b"]}))
        ticks = play(three_spans(), keeper, {"e": 2, "f": 1, "g": 9})
        self.assertEqual(ticks, {"start": 0, "a": 1, "b": 3, "e": 2, "f": 2, "g": 12})
        self.assertEqual(keeper.calls, [
            (0, {"start": 0}, {}, []),
            (1, {"start": 0}, {}, ["a"]),
            (2, {"start": 0, "a": 1}, {"e": 2}, []),
            (3, {"start": 0, "a": 1}, {"e": 2}, ["b"]),
            (4, {"start": 0, "a": 1, "b": 3}, {"e": 2, "f": 4}, []),
            (5, {"start": 0, "a": 1, "b": 3}, {"e": 2, "f": 4}, []),
            (6, {"start": 0, "a": 1, "b": 3}, {"e": 2, "f": 4}, [])])

    def test_it_may_answer_in_the_same_tick(self):
        web = three_spans()
        answer = lambda tick, done, heard: ["a"] if "e" in heard and "a" not in done else []
        for length in (1, 2, 3):
            ticks = play(web, answer, {"e": length, "f": 2, "g": 2})
            self.assertEqual(ticks, {"start": 0, "a": length, "e": length, "f": length + 2})

    def test_several_in_one_tick(self):
        web = with_moments("abc", 2).with_span("e", "c", 1, 1)
        self.assertEqual(play(web, by_plan({0: ["c", "a"], 2: ["b"]}), {"e": 1}),
                         {"start": 0, "a": 0, "b": 2, "c": 0, "e": 1})

    def test_what_is_never_done_is_left_out(self):
        web = three_spans()
        lengths = {"e": 3, "f": 1, "g": 2}
        self.assertEqual(play(web, do_nothing, lengths), {"start": 0, "e": 3})
        self.assertEqual(play(web, by_plan({6: ["b"]}), lengths), {"start": 0, "b": 6, "e": 3, "g": 8})
        self.assertEqual(play(web, by_plan({6: ["a"]}), lengths), {"start": 0, "a": 6, "e": 3, "f": 7})

    def test_what_would_be_heard_beyond_by_is_not(self):
        web = with_moments("a", 4).with_span("e", "start", 1, 9).with_span("f", "start", 1, 9, late=3)
        for one, other in itertools.product(range(1, 10), repeat=2):
            keeper = Recorder(do_nothing)
            self.assertEqual(play(web, keeper, {"e": one, "f": other}), {"start": 0, "e": one, "f": other})
            heard = {name: tick for name, tick in (("e", one), ("f", other + 3)) if tick <= 4}
            self.assertEqual(keeper.calls[-1], (4, {"start": 0}, heard, []))

    def test_a_web_without_anything(self):
        keeper = Recorder(do_nothing)
        self.assertEqual(play(Web(1), keeper, {}), {"start": 0})
        self.assertEqual(keeper.calls, [(0, {"start": 0}, {}, []), (1, {"start": 0}, {}, [])])

    def test_many_plays(self):
        rng = random.Random(27)
        for count in range(400):
            web = any_random_web(rng)
            keeper, lengths = Recorder(mixer(web, count)), random_lengths(rng, web)
            before, handed = state(web), dict(lengths)
            ticks = play(web, keeper, lengths)
            self.assertEqual((state(web), lengths), (before, handed))
            self.check_play(web, keeper, lengths, ticks)
            self.assertEqual(play(web=web, keeper=keeper, lengths=lengths), ticks)

    def check_play(self, web, keeper, lengths, ticks):
        """What was handed to the keeper at each tick is what had come till then."""
        told = {name: tick for tick, done, heard, names in keeper.calls for name in names}
        come = {end: ({"start": 0} | told)[begin] + lengths[end] for end, begin, low, high, late in web.spans()
                if begin in told or begin == "start"}
        self.assertEqual(ticks, {"start": 0} | told | come)
        self.assertEqual([call[0] for call in keeper.calls], list(range(web.by + 1)))
        news = {end: come[end] + late for end, begin, low, high, late in web.spans()
                if end in come and late is not None}
        for tick, done, heard, names in keeper.calls:
            self.assertEqual(done, {"start": 0} | {name: then for name, then in told.items() if then < tick})
            self.assertEqual(heard, {end: then for end, then in news.items() if then <= tick})

    def test_a_keeper_that_changes_what_it_is_handed(self):
        web = three_spans()

        def spoiler(tick, done, heard):
            names = by_plan({1: ["a"], 3: ["b"]})(tick, done, heard)
            self.assertEqual(done, {name: then for name, then in (("start", 0), ("a", 1), ("b", 3))
                                    if then < tick or name == "start"})
            self.assertEqual(heard, {name: then for name, then in (("e", 2), ("f", 4)) if then <= tick})
            done.update({"a": 0, "b": 0, "start": 5})
            heard.update({"e": 1, "f": 1, "g": 1})
            if tick % 2:
                done.clear()
                heard.clear()
            return names
        self.assertEqual(play(web, spoiler, {"e": 2, "f": 1, "g": 9}),
                         {"start": 0, "a": 1, "b": 3, "e": 2, "f": 2, "g": 12})

    def test_a_keeper_that_changes_the_lengths(self):
        lengths = {"e": 2, "f": 1, "g": 9}

        def spoiler(tick, done, heard):
            lengths.update({"e": 3, "f": 2, "g": 2})
            return by_plan({1: ["a"], 3: ["b"]})(tick, done, heard)
        self.assertEqual(play(three_spans(), spoiler, lengths),
                         {"start": 0, "a": 1, "b": 3, "e": 2, "f": 2, "g": 12})

    def test_a_list_that_the_keeper_changes_later(self):
        names = []

        def keeper(tick, done, heard):
            names[:] = ["a"] if tick == 2 else []
            return names
        self.assertEqual(play(with_moments("a", 4), keeper, {}), {"start": 0, "a": 2})
        self.assertEqual(names, [])

    def test_the_told_dict_is_made_anew(self):
        lengths = {"e": 2, "f": 1, "g": 9}
        held = []

        def keeper(tick, done, heard):
            held.extend([done, heard])
            return []
        ticks = play(three_spans(), keeper, lengths)
        self.assertIs(type(ticks), dict)
        self.assertFalse(any(ticks is other for other in [*held, lengths]))
        self.assertEqual(len({id(each) for each in held}), 14)
        ticks.clear()
        self.assertEqual(lengths, {"e": 2, "f": 1, "g": 9})


class LengthsRefused(Case):
    def check(self, kind, fields, lengths):
        before = dict(lengths)
        asked = []
        self.check_refused(kind, fields, play, three_spans(), lambda *told: asked.append(told), lengths)
        self.assertEqual((asked, list(lengths)), ([], list(before)))

    def test_the_first_span_without_a_length(self):
        self.check(NoSpan, {"name": "e"}, {})
        self.check(NoSpan, {"name": "e"}, {"f": 1, "g": 2})
        self.check(NoSpan, {"name": "e"}, {"g": 2, "a": 1, "start": 1})
        self.check(NoSpan, {"name": "f"}, {"e": 1})
        self.check(NoSpan, {"name": "f"}, {"g": 2, "e": 1})
        self.check(NoSpan, {"name": "g"}, {"f": 1, "e": 1})

    def test_ahead_of_any_wrong_length(self):
        for wrong in (0, 4, None, True, HUGE):
            self.check(NoSpan, {"name": "g"}, {"e": wrong, "f": wrong})
            self.check(NoSpan, {"name": "f"}, {"e": wrong, "g": wrong})

    def test_the_first_wrong_length(self):
        good = {"e": 1, "f": 1, "g": 2}
        wrong = [None, True, False, "1", 1.0, (1,), [1], mock.ANY, -1, 0, HUGE, -HUGE]
        for end, more in (("e", [4, 5]), ("f", [3]), ("g", [1, 10])):
            for length in wrong + more:
                self.check(BadLength, {"low": length, "high": length}, {**good, end: length})
        self.check(BadLength, {"low": 4, "high": 4}, {"g": 1, "f": 3, "e": 4})
        self.check(BadLength, {"low": 3, "high": 3}, {"g": 1, "f": 3, "e": 3})
        self.check(BadLength, {"low": None, "high": None}, {"g": None, "f": 2, "e": 3})

    def test_each_bound_is_granted(self):
        for e, f, g in itertools.product((1, 3), (1, 2), (2, 9)):
            self.assertEqual(play(three_spans(), do_nothing, {"e": e, "f": f, "g": g, "other": 0}),
                             {"start": 0, "e": e})

    def test_ahead_of_a_wrong_keeper(self):
        wrong = lambda tick, done, heard: ["start"]
        self.check_refused(NoSpan, {"name": "f"}, play, three_spans(), wrong, {"e": 1, "g": 2})
        self.check_refused(BadLength, {"low": 3, "high": 3}, play, three_spans(), wrong, {"e": 1, "f": 3, "g": 2})


class KeepersRefused(Case):
    def check(self, plan, tick):
        web, lengths = three_spans(), {"e": 2, "f": 1, "g": 9}
        before = state(web)
        self.check_refused(BadKeeper, {"tick": tick}, play, web, by_plan(plan), lengths)
        self.assertEqual((state(web), lengths), (before, {"e": 2, "f": 1, "g": 9}))

    def test_what_is_no_moment(self):
        for tick in range(7):
            for name in ("start", "e", "f", "g", "c", "aa", *NO_NAMES):
                self.check({tick: [name]}, tick)
                self.check({0: ["a"], tick: [name]} if tick else {0: ["a", name]}, tick)

    def test_one_done_already(self):
        for first, second in itertools.combinations(range(7), 2):
            self.check({first: ["a"], second: ["a"]}, second)
            self.check({first: ["b", "a"], second: ["b"]}, second)
            self.check({first: ["a"], second: ["b", "a"]}, second)

    def test_one_twice(self):
        for tick in range(7):
            self.check({tick: ["a", "a"]}, tick)
            self.check({tick: ["a", "b", "a"]}, tick)
            self.check({tick: ["b", "a", "a"]}, tick)

    def test_the_first_wrong_tick(self):
        self.check({2: ["a"], 4: ["a"], 5: ["start"], 6: ["b", "b"]}, 4)

    def test_the_last_tick_is_by(self):
        self.check({6: ["start"]}, 6)
        play(three_spans(), by_plan({7: ["start"]}), {"e": 2, "f": 1, "g": 9})


class Broken(Case):
    def web(self):
        web = with_moments("ab", 10).with_span("e", "a", 1, 9).with_span("f", "a", 1, 99, late=None)
        return web.with_tie("a", "b", least=-2, most=3).with_tie("e", "b", least=0).with_tie("start", "f", most=40)

    good = {"start": 0, "a": 3, "b": 6, "e": 5, "f": 40}

    def check(self, result, **changes):
        ticks = {**self.good, **changes}
        handed = dict(ticks)
        told = broken(self.web(), ticks)
        self.assertEqual(told, result)
        self.assertIn(type(told), (tuple, type(None)))
        self.assertEqual(ticks, handed)

    def test_none(self):
        self.check(None)
        self.assertIsNone(broken(web=Web(), ticks={}))
        self.check(None, other=3, g=None)

    def test_each_moment_has_a_tick_from_nought_to_by(self):
        wrong = (-1, -2, 11, 12, -HUGE, HUGE, None, "3", 3.0, (3,), *TRUTHS, mock.ANY)
        for name, tick in itertools.product("ab", wrong):
            self.check(("undone", name), **{name: tick})
        web = with_moments("ab", 10)
        for one, other in itertools.product((0, 10, 5), repeat=2):
            self.assertIsNone(broken(web, {"a": one, "b": other}))
        self.assertEqual(broken(web, {"a": 1}), ("undone", "b"))
        self.assertEqual(broken(web, {"b": 1}), ("undone", "a"))
        self.assertEqual(broken(web, {}), ("undone", "a"))
        self.assertEqual(broken(web, {"a": 11, "b": -1}), ("undone", "a"))

    def test_truths_are_no_ticks_of_moments(self):
        web = with_moments("ab", 10)
        for truth in TRUTHS:
            self.assertEqual(broken(web, {"a": truth, "b": 1}), ("undone", "a"))
            self.assertEqual(broken(web, {"a": 1, "b": truth}), ("undone", "b"))

    def test_the_moments_go_ahead_of_the_ties(self):
        self.check(("undone", "b"), b=11, a=3)
        self.check(("undone", "b"), b=None, e=99, start=None)

    def test_each_bound_of_each_tie(self):
        self.check(None, a=8, b=6)
        self.check(("tie", 0), a=9, b=6)
        self.check(("tie", 0), a=2)
        self.check(None, e=6)
        self.check(("tie", 1), e=7)
        self.check(("tie", 2), f=41)
        self.check(("tie", 1), e=7, f=41)
        self.check(("tie", 0), a=2, e=7, f=41)

    def test_ends_may_come_at_any_tick(self):
        self.check(None, e=-5, f=-HUGE)
        web = with_moments("a", 10).with_span("e", "a", 1, 99).with_tie("a", "e", most=50)
        self.assertIsNone(broken(web, {"a": 10, "e": 60}))
        self.assertEqual(broken(web, {"a": 10, "e": 61}), ("tie", 0))

    def test_points_without_a_tick(self):
        for name, at in (("e", 1), ("f", 2), ("start", 2)):
            ticks = {point: tick for point, tick in self.good.items() if point != name}
            self.assertEqual(broken(self.web(), ticks), ("tie", at))
            for tick in (None, "3", *TRUTHS):
                self.check(("tie", at), **{name: tick})
        ticks = {point: self.good[point] for point in "ab"}
        self.assertEqual(broken(self.web(), ticks), ("tie", 1))

    def test_start_is_not_nought_by_itself(self):
        web = with_moments("a", 9).with_tie("start", "a", least=2, most=4)
        self.assertEqual(broken(web, {"a": 3}), ("tie", 0))
        self.assertIsNone(broken(web, {"start": 0, "a": 3}))
        self.assertIsNone(broken(web, {"start": -3, "a": 0}))
        self.assertEqual(broken(web, {"start": 1, "a": 2}), ("tie", 0))
        self.assertIsNone(broken(with_moments("a", 9), {"a": 3}))

    def test_ties_by_their_words(self):
        rng = random.Random(28)
        found = []
        for count in range(1500):
            web = small_random_web(rng)
            ticks = play(web, mixer(web, count), random_lengths(rng, web))
            undone = [("undone", name) for name in web.moments() if name not in ticks]
            loose = [("tie", at) for at, tie in enumerate(web.ties())
                     if not all(name in ticks for name in tie[:2]) or not tie_holds(tie, ticks)]
            found.append(broken(web, ticks))
            self.assertEqual(found[-1], (undone + loose + [None])[0])
        self.assertGreater(found.count(None), 50)


if __name__ == "__main__":
    unittest.main()
