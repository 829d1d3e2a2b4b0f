"""Points [25] and [26]: what is left of a run, and ties that are put amid it."""

import random
import unittest

from tidewaiter.errors import BadTie, Full, NoPoint, NothingBack, TooEarly, Unsteered
from tidewaiter.settle import settled, steered
from tidewaiter.waiter import Waiter
from tidewaiter.web import Web
from helpers import HUGE, NO_NAMES, TRUTHS, Case, Mirror, all_steps, letters, middling_random_web, parts
from helpers import random_bounds, small_random_web, standing, state, take_step, with_moments, with_random_spans

PASS = ("pass",)


def harbour():
    """e is heard 1 tick behind its coming, 2 to 5 ticks behind a; g is never heard."""
    web = with_moments("ba", 20).with_span("g", "start", 3, 9, late=None).with_span("e", "a", 2, 5, late=1)
    return web.with_span("f", "start", 4, 9).with_tie("start", "b", least=3).with_tie("f", "b", most=8)


def gone(web, steps):
    waiter = Waiter(web)
    waiter.go(steps)
    return waiter


def forty_ties():
    """A steered web with ten moments, four spans and forty ties."""
    rng = random.Random(40)
    web = with_moments(["a", "b", "c", "d", "i", "j", "k", "l", "m", "n"], 60)
    web = with_random_spans(rng, web, 4, 6, (0, 0, 2, None))
    while len(web.ties()) < 40:
        one, other = rng.sample(web.points(), 2)
        least = rng.randint(-30, 2)
        tied = web.with_tie(one, other, least=least, most=rng.randint(max(0, least), 60))
        web = tied if steered(tied) else web
    return web


def granted_steps(waiter):
    """The steps that a waiter grants now, found out by its twins."""
    found = []
    for step in all_steps(waiter.web):
        try:
            take_step(waiter.twin(), step)
        except (RuntimeError, LookupError):
            continue
        found.append(step)
    return found


def some_step(rng, waiter):
    """A granted step; passing is taken more often, so that runs are long."""
    found = granted_steps(waiter)
    return PASS if PASS in found and rng.random() < 0.4 else rng.choice(found)


class Rest(Case):
    def check_rest(self, waiter, spans, ties):
        web = waiter.web
        rest = waiter.rest()
        self.assertIs(type(rest), Web)
        self.assertEqual(parts(rest), (web.by, web.moments(), spans, web.ties() + ties))
        self.assertTrue(steered(rest))

    def test_at_the_beginning(self):
        self.check_rest(Waiter(harbour()), harbour().spans(), [("start", "b", 0, None), ("start", "a", 0, None)])
        self.check_rest(Waiter(Web(3)), [], [])

    def test_something_begun(self):
        mute, free = ("g", "start", 3, 9, None), ("e", "a", 2, 5, 1)
        for ticks, low in ((0, 4), (1, 4), (4, 4), (5, 5), (8, 8), (9, 9)):
            self.check_rest(gone(harbour(), [PASS] * ticks), [mute, free, ("f", "start", low, 9, 0)],
                            [("start", "b", ticks, None), ("start", "a", ticks, None)])

    def test_one_more_behind_a_deed_in_this_tick(self):
        mute, free = ("g", "start", 3, 9, None), ("e", "a", 2, 5, 1)
        for ticks, low in ((3, 4), (4, 5), (5, 6), (8, 9)):
            ties = [("start", "b", ticks, ticks), ("start", "a", ticks, None)]
            self.check_rest(gone(harbour(), [PASS] * ticks + [("do", "b")]),
                            [mute, free, ("f", "start", low, 9, 0)], ties)
        # In the tick behind the deed nothing more is added.
        self.check_rest(gone(harbour(), [PASS] * 4 + [("do", "b"), PASS]), [mute, free, ("f", "start", 5, 9, 0)],
                        [("start", "b", 4, 4), ("start", "a", 5, None)])

    def test_less_late(self):
        mute = ("g", "start", 3, 9, None)
        for ticks, low in ((0, 2), (1, 2), (2, 2), (3, 2), (4, 3), (5, 4), (6, 5)):
            self.check_rest(gone(harbour(), [("do", "a")] + [PASS] * ticks),
                            [mute, ("e", "a", low, 5, 1), ("f", "start", max(4, ticks), 9, 0)],
                            [("start", "a", 0, 0), ("start", "b", ticks, None)])
        self.check_rest(gone(harbour(), [("do", "a")] + [PASS] * 4 + [("do", "b")]),
                        [mute, ("e", "a", 4, 5, 1), ("f", "start", 5, 9, 0)],
                        [("start", "a", 0, 0), ("start", "b", 4, 4)])

    def test_start_at_tick_nought_is_no_deed(self):
        web = Web(9).with_span("e", "start", 1, 3)
        self.check_rest(Waiter(web), [("e", "start", 1, 3, 0)], [])

    def test_heard_ends_have_their_length(self):
        steps = [("do", "a"), PASS, PASS, PASS, ("do", "b"), PASS, ("hear", "e"), ("hear", "f"), PASS]
        waiter = Waiter(harbour())
        waiter.go(steps[:7])
        self.check_rest(waiter, [("g", "start", 3, 9, None), ("e", "a", 3, 3, 1), ("f", "start", 4, 9, 0)],
                        [("start", "a", 0, 0), ("start", "b", 3, 3)])
        waiter.go(steps[7:8])
        self.assertTrue(waiter.is_over())
        self.check_rest(waiter, [("g", "start", 3, 9, None), ("e", "a", 3, 3, 1), ("f", "start", 4, 4, 0)],
                        [("start", "a", 0, 0), ("start", "b", 3, 3)])

    def test_done_moments_in_the_order_in_which_they_were_done(self):
        waiter = gone(with_moments("abcd", 9), [("do", "c"), PASS, ("do", "a")])
        self.assertEqual(waiter.rest().ties(), [("start", "c", 0, 0), ("start", "a", 1, 1),
                                                ("start", "b", 1, None), ("start", "d", 1, None)])

    def test_beyond_the_last_tick(self):
        waiter = gone(with_moments("a", 2).with_span("e", "a", 2, 9), [("do", "a")] + [PASS] * 7)
        self.check_rest(waiter, [("e", "a", 7, 9, 0)], [("start", "a", 0, 0)])

    def test_told_anew_and_the_run_as_it_was(self):
        waiter = gone(harbour(), [PASS, PASS])
        before = state(waiter.rest())
        waiter.rest().ties().clear()
        self.assertEqual(state(waiter.rest()), before)
        self.assertEqual(state(waiter.web), state(harbour()))

    def test_steered_all_along(self):
        rng = random.Random(25)
        runs = 0
        while runs < 120:
            web = rng.choice([small_random_web, middling_random_web])(rng)
            if not steered(web):
                continue
            waiter = Waiter(web)
            while not waiter.is_over():
                self.assertTrue(steered(waiter.rest()), (parts(web), waiter.told(), waiter.clock))
                take_step(waiter, some_step(rng, waiter))
            self.assertTrue(steered(waiter.rest()))
            runs += 1

    def test_forty_ties(self):
        rng = random.Random(251)
        web = forty_ties()
        self.assertEqual(len(web.ties()), 40)
        for _ in range(3):
            waiter = Waiter(web)
            while not waiter.is_over():
                take_step(waiter, some_step(rng, waiter))
                self.assertEqual(len(waiter.rest().ties()), 50)
                self.assertTrue(steered(waiter.rest()))
            self.check_kept(waiter)
        self.check_refused(Full, {"most": 40}, waiter.rest().with_tie, "a", "b", least=-60)
        self.assertEqual(len(waiter.rest().without_tie(49).ties()), 49)


class Tightening(Case):
    def refused(self, waiter, kind, fields, *points, **bounds):
        before = standing(waiter)
        self.check_refused(kind, fields, waiter.tighten, *points, **bounds)
        self.assertEqual(standing(waiter), before)

    def test_no_point(self):
        waiter = gone(harbour(), [PASS])
        for name in ("z", "Start", *NO_NAMES):
            self.refused(waiter, NoPoint, {"name": name}, name, "a", most=1)
            self.refused(waiter, NoPoint, {"name": name}, "a", name, most=1)
            self.refused(waiter, NoPoint, {"name": name}, name, "y")
            self.refused(waiter, NoPoint, {"name": name}, "a", name, least=2, most=1)
            self.refused(waiter, NoPoint, {"name": name}, name, name)

    def test_bad_tie(self):
        waiter = gone(harbour(), [PASS])
        for least, most in ((None, None), (2, 1), (-1001, None), (None, 1001), (HUGE, None), (None, -HUGE),
                            (True, None), (None, False), (0, True), ("1", None), (None, 1.0)):
            self.refused(waiter, BadTie, {"least": least, "most": most}, "a", "b", least=least, most=most)
        self.refused(waiter, BadTie, {"least": 0, "most": 0}, "a", "a", least=0, most=0)
        for truth in TRUTHS:
            self.refused(waiter, BadTie, {"least": truth, "most": None}, "start", "a", least=truth)

    def test_bounds_by_name_alone(self):
        with self.assertRaises(TypeError):
            Waiter(harbour()).tighten("start", "a", 1)
        with self.assertRaises(TypeError):
            Waiter(harbour()).tighten("start", "a", 1, 2)
        waiter = Waiter(harbour())
        self.assertIsNone(waiter.tighten(most=9, least=1, other="a", one="start"))
        self.assertEqual(waiter.web, harbour().with_tie("start", "a", least=1, most=9))

    def test_full_at_forty_ties_of_the_web(self):
        waiter = Waiter(forty_ties())
        # Full ahead of Unsteered, and the refusals of with_tie ahead of it.
        self.refused(waiter, Full, {"most": 40}, "a", "b", most=1000)
        self.refused(waiter, Full, {"most": 40}, "start", "a", most=-1)
        self.refused(waiter, BadTie, {"least": 1, "most": 0}, "a", "b", least=1, most=0)
        self.refused(waiter, NoPoint, {"name": "z"}, "a", "z", most=1)

    def test_rests_with_more_than_forty_ties(self):
        web = forty_ties().without_tie(39)
        waiter = Waiter(web)
        waiter.tighten("start", "a", most=60)
        self.assertEqual((len(waiter.web.ties()), len(waiter.rest().ties())), (40, 50))
        self.refused(waiter, Full, {"most": 40}, "start", "b", most=60)
        waiter.step_back()
        self.refused(waiter, Unsteered, {}, "start", "a", most=-1)
        waiter.tighten("start", "b", most=60)

    def test_unsteered(self):
        waiter = gone(harbour(), [PASS, PASS])
        self.refused(waiter, Unsteered, {}, "start", "a", most=1)
        self.refused(waiter, Unsteered, {}, "start", "f", most=8)
        self.refused(waiter, Unsteered, {}, "start", "g", most=8)
        self.refused(waiter, Unsteered, {}, "e", "b", least=0, most=0)
        waiter.do("a")
        self.refused(waiter, Unsteered, {}, "start", "a", least=3)
        self.refused(waiter, Unsteered, {}, "start", "a", most=1)
        self.assertIsNone(waiter.tighten("start", "a", least=2, most=2))

    def test_what_is_known_by_now_counts(self):
        web = with_moments("a", 20).with_span("e", "start", 2, 6)
        # From the beginning on the end may come at tick 6.
        self.assertFalse(steered(web.with_tie("start", "e", most=4)))
        waiter = gone(web, [PASS] * 4)
        self.refused(waiter, Unsteered, {}, "start", "e", most=4)
        waiter.hear("e")
        waiter.tighten("start", "e", most=4)
        self.assertFalse(steered(waiter.web))
        # Not heard till then, it comes at tick 5 at the soonest.
        waiter = gone(web, [PASS] * 5)
        waiter.tighten("start", "e", least=5)
        self.refused(waiter, Unsteered, {}, "start", "e", least=6)
        waiter.do("a")
        waiter.tighten("start", "e", least=6)
        self.assertEqual(len(waiter.web.ties()), 2)

    def test_a_twin_of_a_web_unsteered_from_the_beginning(self):
        waiter = gone(with_moments("a", 20).with_span("e", "start", 2, 6), [PASS] * 4 + [("hear", "e")])
        waiter.tighten("e", "a", least=3, most=3)
        waiter.tighten("start", "e", most=4)
        twin = waiter.twin()
        self.assertEqual(standing(twin), standing(waiter))
        twin.go([PASS] * 3 + [("do", "a")])
        self.assertTrue(twin.is_over())
        self.check_kept(twin)
        self.assertEqual((waiter.clock, waiter.due("a")), (4, 7))

    def test_the_run_goes_on_by_the_least_table_of_the_rest(self):
        waiter = gone(harbour(), [PASS, PASS])
        mirror = Mirror(harbour())
        mirror.clock = 2
        self.check_stands(waiter, mirror)
        waiter.tighten("start", "a", least=5, most=7)
        mirror.web = harbour().with_tie("start", "a", least=5, most=7)
        mirror.table = settled(waiter.rest())[1]
        self.check_stands(waiter, mirror)
        self.assertEqual((waiter.due("a"), waiter.may()), (7, []))
        self.check_refused(TooEarly, {"name": "a", "tick": 2}, waiter.do, "a")
        waiter.go([PASS] * 3)
        self.assertEqual(waiter.may(), ["b", "a"])

    def test_the_table_of_the_rest_is_another_one_than_that_of_the_web(self):
        web = with_moments("ab", 20).with_span("e", "start", 2, 6)
        waiter = gone(web, [PASS] * 4)
        # The end may still be heard in this tick, and then a is no longer ahead of it.
        self.refused(waiter, Unsteered, {}, "a", "e", least=1)
        # Behind a deed it can't be: it comes at tick 5 at the soonest, so that a is ahead of it if it is done now.
        waiter.do("b")
        waiter.tighten("a", "e", least=1)
        self.assertEqual((waiter.due("a"), waiter.may(), waiter.must()), (4, ["a"], ["a"]))
        self.assertEqual(settled(waiter.web)[1].between("start", "a"), 1)

    def test_step_back_over_a_tie(self):
        waiter = gone(harbour(), [PASS, PASS])
        before = standing(waiter)
        waiter.tighten("start", "a", least=5, most=7)
        tight = standing(waiter)
        self.assertNotEqual(tight, before)
        waiter.pass_on()
        waiter.step_back()
        self.assertEqual(standing(waiter), tight)
        self.assertIsNone(waiter.step_back())
        self.assertEqual(standing(waiter), before)
        self.assertEqual(waiter.web, harbour())
        waiter.do("a")
        for _ in range(3):
            waiter.step_back()
        self.check_refused(NothingBack, {}, waiter.step_back)

    def test_twins(self):
        waiter = gone(harbour(), [PASS, PASS])
        twin = waiter.twin()
        before = standing(waiter)
        waiter.tighten("start", "a", least=5, most=7)
        self.assertEqual(standing(twin), before)
        other = waiter.twin()
        tight = standing(waiter)
        self.assertEqual(standing(other), tight)
        other.step_back()
        self.assertEqual((standing(other), standing(waiter)), (before, tight))
        twin.do("a")
        twin.tighten("a", "b", least=2)
        self.assertEqual(standing(waiter), tight)

    def test_going_over_a_tie(self):
        waiter = gone(harbour(), [PASS])
        waiter.tighten("start", "a", least=2)
        before = standing(waiter)
        self.check_refused(TooEarly, {"name": "a", "tick": 1}, waiter.go, [("do", "a"), PASS])
        self.assertEqual(standing(waiter), before)
        waiter.go([PASS, ("do", "a")])
        for _ in range(4):
            waiter.step_back()
        self.assertEqual((waiter.clock, waiter.web), (0, harbour()))
        self.check_refused(NothingBack, {}, waiter.step_back)

    def test_a_web_is_not_changed(self):
        web = harbour()
        before = state(web)
        Waiter(web).tighten("start", "a", least=2)
        self.assertEqual(state(web), before)

    def test_when_all_is_over(self):
        waiter = gone(with_moments("a", 9), [PASS, ("do", "a")])
        self.refused(waiter, Unsteered, {}, "start", "a", least=2)
        waiter.tighten("start", "a", most=1)
        self.assertTrue(waiter.is_over())
        waiter.step_back()
        waiter.step_back()
        self.assertFalse(waiter.is_over())

    def test_runs_with_ties_granted_amid_end_with_all_kept(self):
        rng = random.Random(26)
        granted = refused = runs = 0
        while runs < 250:
            web = rng.choice([small_random_web, middling_random_web])(rng)
            if not steered(web) or len(web) < 2:
                continue
            waiter = Waiter(web)
            mirror = Mirror(web)
            runs += 1
            while not waiter.is_over():
                if rng.random() < 0.3:
                    one, other = rng.sample(web.points(), 2)
                    least, most = random_bounds(rng, 6)
                    try:
                        self.assertIsNone(waiter.tighten(one, other, least=least, most=most))
                        granted += 1
                        mirror.web = mirror.web.with_tie(one, other, least=least, most=most)
                        mirror.table = settled(waiter.rest())[1]
                    except Unsteered:
                        refused += 1
                    self.check_stands(waiter, mirror)
                    self.assertTrue(steered(waiter.rest()))
                step = some_step(rng, waiter)
                take_step(waiter, step)
                mirror.take(step)
                self.check_stands(waiter, mirror)
            self.check_kept(waiter)
        self.assertGreater(granted, 100)
        self.assertGreater(refused, 100)

    def test_ties_between_what_is_done(self):
        web = with_moments(letters(4), 9)
        waiter = gone(web, [("do", "a"), PASS, PASS, ("do", "b")])
        for least in range(-4, 5):
            for most in range(least, 5):
                twin = waiter.twin()
                if least <= 2 <= most:
                    twin.tighten("a", "b", least=least, most=most)
                else:
                    self.refused(twin, Unsteered, {}, "a", "b", least=least, most=most)


if __name__ == "__main__":
    unittest.main()
