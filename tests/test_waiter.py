"""Points [21] to [24]: runs of a keeper that goes by the least table."""

import copy
import random
import unittest

from tidewaiter.errors import BadNews, Done, NoMoment, NoSpan, NothingBack, Over
from tidewaiter.errors import TooEarly, TooLate, Unbegun, Unheard, Unsteered
from tidewaiter.settle import steered
from tidewaiter.waiter import Waiter
from tidewaiter.web import Web
from helpers import NO_NAMES, Case, Mirror, all_steps, middling_random_web, small_random_web, standing, state
from helpers import take_step, with_moments

PASS = ("pass",)


def harbour():
    """e is heard 2 to 4 ticks behind start; a comes 1 to 2 ticks behind it; g, behind a, is never heard."""
    web = with_moments("ab", 9).with_span("e", "start", 2, 4).with_span("g", "a", 1, 2, late=None)
    return web.with_tie("e", "a", least=1, most=2).with_tie("start", "b", least=1)


class Beginning(Case):
    def test_unsteered(self):
        for web in (with_moments("a", 9).with_tie("start", "a", most=-1),
                    with_moments("a", 9).with_span("e", "start", 1, 3, late=1).with_tie("e", "a", least=0, most=0)):
            before = state(web)
            self.check_refused(Unsteered, {}, Waiter, web)
            self.assertEqual(state(web), before)

    def test_a_bare_web_is_over_at_once(self):
        waiter = Waiter(Web())
        self.assertEqual((waiter.clock, waiter.told(), waiter.may(), waiter.must(), waiter.is_over(), len(waiter)),
                         (0, [("start", 0)], [], [], True, 1))
        self.check_refused(Over, {"tick": 0}, waiter.pass_on)
        self.check_refused(NothingBack, {}, waiter.step_back)

    def test_ends_never_heard_are_not_left(self):
        waiter = Waiter(Web(5).with_span("e", "start", 1, 2, late=None))
        self.assertTrue(waiter.is_over())
        self.check_refused(NoSpan, {"name": "e"}, waiter.hear, "e")

    def test_it_stands_at_nought(self):
        web = harbour()
        for waiter in (Waiter(web), Waiter(web=web)):
            self.assertEqual((waiter.clock, waiter.web, waiter.told(), len(waiter)), (0, web, [("start", 0)], 1))
            self.assertFalse(waiter.is_over())
            self.assertEqual((waiter.may(), waiter.must(), waiter.due("a"), waiter.due("b")), ([], [], 6, 9))
            self.check_stands(waiter, Mirror(web))


class WrittenRun(Case):
    def test_a_whole_run(self):
        waiter = Waiter(harbour())
        self.assertIsNone(waiter.pass_on())
        self.assertEqual((waiter.clock, waiter.may(), waiter.must()), (1, ["b"], []))
        self.assertIsNone(waiter.do("b"))
        self.assertEqual((waiter.may(), waiter.due("b"), waiter.told()), ([], 1, [("start", 0), ("b", 1)]))
        waiter.pass_on()
        waiter.pass_on()
        self.assertIsNone(waiter.hear("e"))
        self.assertEqual((waiter.clock, waiter.may(), waiter.due("a")), (3, [], 5))
        waiter.pass_on()
        self.assertEqual((waiter.may(), waiter.must()), (["a"], []))
        waiter.pass_on()
        self.assertEqual((waiter.may(), waiter.must()), (["a"], ["a"]))
        waiter.do("a")
        self.assertTrue(waiter.is_over())
        self.assertEqual(waiter.told(), [("start", 0), ("b", 1), ("e", 3), ("a", 5)])
        self.assertEqual((len(waiter), waiter.clock), (4, 5))
        self.check_refused(Over, {"tick": 5}, waiter.pass_on)
        self.check_kept(waiter)

    def test_waiting_unless_heard(self):
        # The end comes at most one tick behind a, so a waits until tick 3 for an end of 2 to 4 ticks.
        web = with_moments("a", 9).with_span("e", "start", 2, 4).with_tie("a", "e", most=1)
        waiter = Waiter(web)
        told = []
        for _ in range(4):
            told.append(waiter.may())
            waiter.pass_on()
        self.assertEqual(told, [[], [], [], ["a"]])
        waiter = Waiter(web)
        waiter.go([PASS, PASS, ("hear", "e")])
        self.assertEqual(waiter.may(), ["a"])

    def test_may_goes_by_the_table_alone(self):
        # At tick 4 the end must be heard, and a may be done all the same, but not be done.
        web = with_moments("a", 9).with_span("e", "start", 2, 4)
        waiter = Waiter(web)
        waiter.go([PASS] * 4)
        self.assertEqual(waiter.may(), ["a"])
        self.check_refused(Unheard, {"name": "e"}, waiter.do, "a")
        waiter.hear("e")
        waiter.do("a")
        self.assertTrue(waiter.is_over())

    def test_must_in_the_order_of_the_web(self):
        waiter = Waiter(with_moments("bca", 2))
        self.assertEqual(waiter.may(), ["b", "c", "a"])
        waiter.go([PASS, PASS])
        self.assertEqual((waiter.may(), waiter.must()), (["b", "c", "a"], ["b", "c", "a"]))
        self.check_refused(TooLate, {"name": "b", "tick": 2}, waiter.pass_on)
        waiter.do("b")
        self.check_refused(TooLate, {"name": "c", "tick": 2}, waiter.pass_on)

    def test_passing_beyond_the_last_tick(self):
        waiter = Waiter(with_moments("a", 2).with_span("e", "a", 3, 5, late=1))
        waiter.go([PASS, PASS, ("do", "a")] + [PASS] * 6)
        self.assertEqual(waiter.clock, 8)
        self.check_refused(Unheard, {"name": "e"}, waiter.pass_on)
        waiter.hear("e")
        self.check_refused(Over, {"tick": 8}, waiter.pass_on)
        self.check_kept(waiter)

    def test_told_lists_are_made_anew(self):
        waiter = Waiter(harbour())
        waiter.go([PASS, ("do", "b"), PASS, PASS, ("hear", "e"), PASS, PASS])
        before = copy.deepcopy(standing(waiter))
        for ask in (waiter.told, waiter.may, waiter.must):
            self.assertIs(type(ask()), list)
            for spoil in (list.clear, list.reverse, lambda told: told.append("x")):
                spoil(ask())
                self.assertEqual(standing(waiter), before)
        self.assertTrue(all(type(pair) is tuple for pair in waiter.told()))


class Due(Case):
    def test_no_moment(self):
        waiter = Waiter(harbour())
        waiter.go([PASS, PASS, ("hear", "e")])
        for name in ("start", "e", "g", "z", *NO_NAMES):
            self.check_refused(NoMoment, {"name": name}, waiter.due, name)

    def test_by_name(self):
        self.assertEqual(Waiter(harbour()).due(name="a"), 6)

    def test_the_tick_of_what_is_done(self):
        waiter = Waiter(with_moments("a", 9))
        waiter.go([PASS, PASS, PASS])
        self.assertEqual(waiter.due("a"), 9)
        waiter.do("a")
        self.assertEqual(waiter.due("a"), 3)


class Doing(Case):
    def test_no_moment(self):
        waiter = Waiter(harbour())
        for name in ("start", "e", "g", "z", *NO_NAMES):
            self.check_step_refused(waiter, NoMoment, {"name": name}, "do", name)

    def test_no_moment_ahead_of_all_else(self):
        waiter = Waiter(harbour())
        waiter.go([PASS, PASS, ("hear", "e")])
        # e was heard, and so was done in a way; start was, too.
        self.check_step_refused(waiter, NoMoment, {"name": "e"}, "do", "e")
        self.check_step_refused(waiter, NoMoment, {"name": "start"}, "do", "start")
        unheard = Waiter(harbour())
        unheard.go([PASS] * 4)
        self.check_step_refused(unheard, NoMoment, {"name": "z"}, "do", "z")

    def test_done(self):
        waiter = Waiter(with_moments("ab", 9))
        waiter.do("a")
        self.check_step_refused(waiter, Done, {"name": "a"}, "do", "a")
        waiter.pass_on()
        self.check_step_refused(waiter, Done, {"name": "a"}, "do", "a")

    def test_done_ahead_of_unheard(self):
        waiter = Waiter(harbour())
        waiter.go([PASS, ("do", "b"), PASS, PASS, PASS])
        self.check_step_refused(waiter, Done, {"name": "b"}, "do", "b")
        self.check_step_refused(waiter, Unheard, {"name": "e"}, "do", "a")

    def test_unheard_alone_and_the_first_one(self):
        web = with_moments("a", 9).with_span("e", "start", 1, 3).with_span("f", "start", 1, 2)
        web = web.with_span("h", "start", 1, 2, late=1)
        waiter = Waiter(web)
        waiter.go([PASS, PASS])
        self.check_step_refused(waiter, Unheard, {"name": "f"}, "do", "a")
        waiter.go([("hear", "f"), PASS])
        self.check_step_refused(waiter, Unheard, {"name": "e"}, "do", "a")
        waiter.hear("e")
        self.check_step_refused(waiter, Unheard, {"name": "h"}, "do", "a")
        waiter.hear("h")
        waiter.do("a")

    def test_unheard_ahead_of_too_early(self):
        waiter = Waiter(harbour())
        waiter.go([PASS, PASS, PASS])
        self.check_step_refused(waiter, TooEarly, {"name": "a", "tick": 3}, "do", "a")
        waiter.pass_on()
        self.assertNotIn("a", waiter.may())
        self.check_step_refused(waiter, Unheard, {"name": "e"}, "do", "a")

    def test_too_early(self):
        waiter = Waiter(harbour())
        self.check_step_refused(waiter, TooEarly, {"name": "b", "tick": 0}, "do", "b")
        waiter.pass_on()
        self.check_step_refused(waiter, TooEarly, {"name": "a", "tick": 1}, "do", "a")
        waiter.do(name="b")

    def test_something_must_come_ahead(self):
        waiter = Waiter(with_moments("ab", 9).with_tie("a", "b", least=0).with_tie("b", "a", least=-3))
        self.assertEqual(waiter.may(), ["a", "b"])
        waiter = Waiter(with_moments("ab", 9).with_tie("a", "b", least=1))
        waiter.go([PASS] * 5)
        self.check_step_refused(waiter, TooEarly, {"name": "b", "tick": 5}, "do", "b")
        waiter.do("a")
        self.check_step_refused(waiter, TooEarly, {"name": "b", "tick": 5}, "do", "b")
        waiter.go([PASS, ("do", "b")])


class Hearing(Case):
    def refused(self, waiter, kind, fields, end):
        self.check_step_refused(waiter, kind, fields, "hear", end)

    def test_no_span(self):
        waiter = Waiter(harbour())
        for name in ("start", "a", "b", "g", "z", *NO_NAMES):
            self.refused(waiter, NoSpan, {"name": name}, name)

    def test_no_span_ahead_of_all_else(self):
        waiter = Waiter(harbour())
        waiter.go([PASS, ("do", "b")])
        # b is done, and something was done in this tick.
        for name in ("b", "a", "g", "z", "start"):
            self.refused(waiter, NoSpan, {"name": name}, name)

    def test_done_alone_and_ahead_of_bad_news_and_too_late(self):
        web = with_moments("ab", 9).with_span("e", "start", 1, 4)
        waiter = Waiter(web)
        waiter.go([PASS, ("hear", "e")])
        self.refused(waiter, Done, {"name": "e"}, "e")
        waiter.do("a")
        self.refused(waiter, Done, {"name": "e"}, "e")
        waiter.go([PASS] * 5)
        self.refused(waiter, Done, {"name": "e"}, "e")
        waiter.do("b")
        self.refused(waiter, Done, {"name": "e"}, "e")

    def test_unbegun_alone_and_ahead_of_too_late(self):
        waiter = Waiter(with_moments("ab", 9).with_span("e", "a", 1, 4))
        self.refused(waiter, Unbegun, {"name": "e"}, "e")
        waiter.do("b")
        self.refused(waiter, Unbegun, {"name": "e"}, "e")
        waiter.pass_on()
        self.refused(waiter, Unbegun, {"name": "e"}, "e")

    def test_bad_news_alone_and_ahead_of_too_late(self):
        waiter = Waiter(with_moments("ab", 9).with_span("e", "a", 2, 4, late=1))
        waiter.do("a")
        self.refused(waiter, BadNews, {"name": "e", "tick": 0}, "e")
        for tick in (1, 2):
            waiter.pass_on()
            self.refused(waiter, BadNews, {"name": "e", "tick": tick}, "e")
        waiter.do("b")
        self.refused(waiter, BadNews, {"name": "e", "tick": 2}, "e")
        waiter.pass_on()
        self.assertIsNone(waiter.hear(end="e"))
        self.assertEqual(waiter.told(), [("start", 0), ("a", 0), ("b", 2), ("e", 3)])

    def test_news_at_each_tick_from_low_to_high(self):
        for late in (0, 1, 3):
            for ticks in range(8):
                waiter = Waiter(Web(9).with_span("e", "start", 2, 4, late=late))
                if ticks > 4 + late:
                    self.check_refused(Unheard, {"name": "e"}, waiter.go, [PASS] * ticks)
                    continue
                waiter.go([PASS] * ticks)
                if ticks < 2 + late:
                    self.refused(waiter, BadNews, {"name": "e", "tick": ticks}, "e")
                else:
                    waiter.hear("e")
                    self.assertEqual(waiter.told()[-1], ("e", ticks))

    def test_too_late(self):
        waiter = Waiter(with_moments("a", 9).with_span("e", "start", 1, 4))
        waiter.go([PASS, ("do", "a")])
        self.refused(waiter, TooLate, {"name": "e", "tick": 1}, "e")
        waiter.pass_on()
        waiter.hear("e")

    def test_hearing_is_no_doing(self):
        web = Web(9).with_span("e", "start", 1, 4).with_span("f", "start", 1, 4)
        waiter = Waiter(web)
        waiter.go([PASS, ("hear", "f"), ("hear", "e")])
        self.assertEqual(waiter.told(), [("start", 0), ("f", 1), ("e", 1)])


class Passing(Case):
    def refused(self, waiter, kind, fields):
        self.check_step_refused(waiter, kind, fields, "pass")

    def test_too_late_alone(self):
        waiter = Waiter(with_moments("ab", 9).with_tie("start", "b", most=0))
        self.refused(waiter, TooLate, {"name": "b", "tick": 0})
        waiter.do("b")
        waiter.pass_on()

    def test_unheard_alone(self):
        waiter = Waiter(with_moments("a", 9).with_span("e", "start", 1, 2))
        waiter.go([PASS, PASS])
        self.refused(waiter, Unheard, {"name": "e"})
        waiter.hear("e")
        waiter.pass_on()

    def test_too_late_ahead_of_unheard(self):
        waiter = Waiter(with_moments("a", 2).with_span("e", "start", 1, 2))
        waiter.go([PASS, PASS])
        self.refused(waiter, TooLate, {"name": "a", "tick": 2})
        self.check_refused(Unheard, {"name": "e"}, waiter.do, "a")
        waiter.go([("hear", "e"), ("do", "a")])
        self.refused(waiter, Over, {"tick": 2})

    def test_over_at_each_tick(self):
        for tick in range(4):
            waiter = Waiter(with_moments("a", 9))
            waiter.go([PASS] * tick + [("do", "a")])
            self.refused(waiter, Over, {"tick": tick})


class SteppingBack(Case):
    STEPS = [PASS, ("do", "b"), PASS, ("hear", "e"), PASS, ("do", "a")]

    def test_to_the_beginning(self):
        waiter = Waiter(harbour())
        stood = [standing(waiter)]
        for step in self.STEPS:
            take_step(waiter, step)
            stood.append(standing(waiter))
        self.assertEqual(len(set(map(repr, stood))), len(stood))
        for then in reversed(stood[:-1]):
            self.assertIsNone(waiter.step_back())
            self.assertEqual(standing(waiter), then)
        before = standing(waiter)
        self.check_refused(NothingBack, {}, waiter.step_back)
        self.assertEqual(standing(waiter), before)
        waiter.go(self.STEPS)
        self.assertEqual(standing(waiter), stood[-1])

    def test_refused_steps_are_not_undone(self):
        waiter = Waiter(harbour())
        waiter.pass_on()
        stood = standing(waiter)
        waiter.do("b")
        for step in (("do", "b"), ("do", "z"), ("hear", "e"), ("hear", "g"), ("do", "a")):
            with self.assertRaises((RuntimeError, LookupError)):
                take_step(waiter, step)
        waiter.step_back()
        self.assertEqual(standing(waiter), stood)

    def test_back_and_another_way(self):
        waiter = Waiter(harbour())
        waiter.go([PASS, PASS, ("hear", "e")])
        waiter.step_back()
        waiter.pass_on()
        waiter.hear("e")
        self.assertEqual(waiter.told(), [("start", 0), ("e", 3)])
        for _ in range(4):
            waiter.step_back()
        self.check_refused(NothingBack, {}, waiter.step_back)


class Twins(Case):
    def test_each_goes_its_own_way(self):
        waiter = Waiter(harbour())
        waiter.go([PASS, ("do", "b"), PASS])
        twin = waiter.twin()
        self.assertIs(type(twin), Waiter)
        before = standing(waiter)
        self.assertEqual(standing(twin), before)
        twin.go([("hear", "e"), PASS, ("do", "a")])
        self.assertEqual(standing(waiter), before)
        self.assertTrue(twin.is_over())
        waiter.go([PASS, ("hear", "e")])
        self.assertEqual(waiter.told()[-1], ("e", 3))
        self.assertEqual(twin.told()[-1], ("a", 3))

    def test_both_step_back_to_the_beginning(self):
        waiter = Waiter(harbour())
        begun = standing(waiter)
        waiter.go([PASS, ("do", "b"), PASS])
        twin = waiter.twin()
        amid = standing(waiter)
        for _ in range(3):
            twin.step_back()
        self.assertEqual((standing(twin), standing(waiter)), (begun, amid))
        self.check_refused(NothingBack, {}, twin.step_back)
        for _ in range(3):
            waiter.step_back()
        self.assertEqual(standing(waiter), begun)
        self.check_refused(NothingBack, {}, waiter.step_back)

    def test_a_twin_of_a_twin(self):
        waiter = Waiter(harbour())
        waiter.pass_on()
        other = waiter.twin().twin()
        waiter.step_back()
        self.assertEqual((waiter.clock, other.clock), (0, 1))
        other.step_back()
        self.check_refused(NothingBack, {}, other.step_back)


class Going(Case):
    def test_none_one_and_more(self):
        waiter = Waiter(harbour())
        begun = standing(waiter)
        self.assertIsNone(waiter.go([]))
        self.assertEqual(standing(waiter), begun)
        self.check_refused(NothingBack, {}, waiter.step_back)
        self.assertIsNone(waiter.go([PASS]))
        self.assertEqual(waiter.clock, 1)
        self.assertIsNone(waiter.go(steps=[("do", "b"), PASS, ("hear", "e"), PASS, ("do", "a")]))
        self.assertEqual(waiter.told(), [("start", 0), ("b", 1), ("e", 2), ("a", 3)])

    def test_as_one_by_one(self):
        one, other = Waiter(harbour()), Waiter(harbour())
        one.go(SteppingBack.STEPS)
        for step in SteppingBack.STEPS:
            take_step(other, step)
        for _ in SteppingBack.STEPS:
            self.assertEqual(standing(one), standing(other))
            one.step_back()
            other.step_back()
        self.check_refused(NothingBack, {}, one.step_back)

    def test_refused_at_the_first_amid_and_at_the_last(self):
        wrong = [("do", "z"), ("do", None), ("do", "a"), ("do", "b"), ("hear", "g"), ("hear", "start"), ("hear", "e")]
        kinds = set()
        for at in range(len(SteppingBack.STEPS) + 1):
            mirror = Mirror(harbour())
            for taken in SteppingBack.STEPS[:at]:
                mirror.take(taken)
            for step in [step for step in wrong if mirror.refusal(step) is not None]:
                kind, fields = mirror.refusal(step)
                waiter = Waiter(harbour())
                before = standing(waiter)
                steps = [*SteppingBack.STEPS[:at], step, *SteppingBack.STEPS[at:]]
                kept = copy.deepcopy(steps)
                self.check_refused(kind, fields, waiter.go, steps)
                self.assertEqual((standing(waiter), steps), (before, kept))
                self.check_refused(NothingBack, {}, waiter.step_back)
                kinds.add(kind)
        self.assertEqual(kinds, {NoMoment, NoSpan, Done, TooEarly, BadNews})

    def test_refused_amid_a_run(self):
        waiter = Waiter(harbour())
        waiter.go([PASS, ("do", "b")])
        before = standing(waiter)
        self.check_refused(TooEarly, {"name": "a", "tick": 2}, waiter.go, [PASS, ("hear", "e"), ("do", "a")])
        self.assertEqual(standing(waiter), before)
        waiter.step_back()
        self.assertEqual(waiter.told(), [("start", 0)])
        waiter.step_back()
        self.check_refused(NothingBack, {}, waiter.step_back)

    def test_the_first_refusal_is_told(self):
        waiter = Waiter(harbour())
        self.check_refused(TooEarly, {"name": "b", "tick": 0}, waiter.go, [("do", "b"), ("do", "z")])
        self.check_refused(NoMoment, {"name": "z"}, waiter.go, [("do", "z"), ("do", "b")])

    def test_the_handed_list_is_not_kept(self):
        waiter = Waiter(harbour())
        steps = [PASS, ("do", "b")]
        waiter.go(steps)
        before = standing(waiter)
        steps.append(("do", "z"))
        steps[0] = ("hear", "e")
        self.assertEqual(standing(waiter), before)
        waiter.step_back()
        waiter.step_back()
        self.assertEqual(waiter.clock, 0)


class ManyRuns(Case):
    def steered_webs(self, rng, count):
        while count:
            web = rng.choice([small_random_web, middling_random_web])(rng)
            if steered(web):
                count -= 1
                yield web

    def try_all(self, waiter, mirror):
        """Each step is refused or granted by the words; those that are granted are told."""
        granted = []
        for step in [*all_steps(waiter.web), ("do", "zz"), ("hear", None)]:
            due = mirror.refusal(step)
            if due is None:
                granted.append(step)
                twin, other = waiter.twin(), mirror.copy()
                self.assertIsNone(take_step(twin, step))
                other.take(step)
                self.check_stands(twin, other)
            else:
                self.check_refused(due[0], due[1], take_step, waiter, step)
        self.check_stands(waiter, mirror)
        return granted

    def test_behind_each_step(self):
        rng = random.Random(22)
        for web in self.steered_webs(rng, 200):
            waiter, mirror, taken = Waiter(web), Mirror(web), 0
            self.check_stands(waiter, mirror)
            while not waiter.is_over():
                granted = self.try_all(waiter, mirror)
                self.assertTrue(granted, "no way on")
                # Passing is chosen more often, so that runs are long.
                step = PASS if PASS in granted and rng.random() < 0.5 else rng.choice(granted)
                take_step(waiter, step)
                mirror.take(step)
                taken += 1
            self.assertEqual(self.try_all(waiter, mirror), [])
            self.check_kept(waiter)
            for _ in range(taken):
                waiter.step_back()
            self.check_stands(waiter, Mirror(web))
            self.check_refused(NothingBack, {}, waiter.step_back)

    def every_run(self, waiter, mirror, seen):
        """Goes every way that a waiter grants, back each time by step_back."""
        if (waiter.clock, tuple(sorted(waiter.told()))) in seen:
            return
        seen.add((waiter.clock, tuple(sorted(waiter.told()))))
        if waiter.is_over():
            self.check_kept(waiter)
            return
        granted = [step for step in all_steps(waiter.web) if mirror.refusal(step) is None]
        self.assertTrue(granted, "no way on")
        for step in granted:
            other = mirror.copy()
            take_step(waiter, step)
            other.take(step)
            self.every_run(waiter, other, seen)
            waiter.step_back()

    def test_every_run_of_small_webs_is_kept(self):
        rng = random.Random(21)
        ends = 0
        for _ in range(150):
            web = small_random_web(rng)
            if not steered(web):
                continue
            seen = set()
            waiter = Waiter(web)
            self.every_run(waiter, Mirror(web), seen)
            self.check_stands(waiter, Mirror(web))
            ends += len(seen)
        self.assertGreater(ends, 1000)


if __name__ == "__main__":
    unittest.main()
