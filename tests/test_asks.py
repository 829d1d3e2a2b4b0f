"""Points [30] and [31]: further questions about a web."""

import itertools
import random
import unittest

from tidewaiter.asks import corners, culprits, deaf, deafest, foreseen, soonest, widest
from tidewaiter.errors import BadLate, NoSpan, Unsteered
from tidewaiter.settle import steered
from tidewaiter.waiter import Waiter
from tidewaiter.web import Web
from helpers import (NO_NAMES, Case, any_random_web, parts, settled_webs, small_random_web, state, tie_holds,
                     with_moments)


def random_webs(seed, count):
    rng = random.Random(seed)
    return [any_random_web(rng) for _ in range(count)]


def with_span_as(web, end, **changes):
    """A web made anew, of which one span has another high or late."""
    made = Web(web.by)
    for name in web.moments():
        made = made.with_moment(name)
    for name, begin, low, high, late in web.spans():
        row = {"high": high, "late": late, **(changes if name == end else {})}
        made = made.with_span(name, begin, low, row["high"], late=row["late"])
    for one, other, least, most in web.ties():
        made = made.with_tie(one, other, least=least, most=most)
    return made


def foreseen_by_search(web):
    """Whether for all lengths there are ticks of the moments with which all ties hold."""
    lengths = [[(end, length) for length in range(low, high + 1)] for end, begin, low, high, late in web.spans()]
    doings = [[(name, tick) for tick in range(web.by + 1)] for name in web.moments()]
    return all(any(all_hold(web, dict(chosen), dict(done)) for done in itertools.product(*doings))
               for chosen in itertools.product(*lengths))


def all_hold(web, lengths, done):
    ticks = {"start": 0, **done}
    ends = {end: ticks[begin] + lengths[end] for end, begin, low, high, late in web.spans()}
    return all(tie_holds(tie, ticks | ends) for tie in web.ties())


class Deaf(Case):
    def test_all_but_late_is_kept(self):
        for web in random_webs(30, 200):
            before = state(web)
            told = deaf(web)
            by, moments, spans, ties = parts(web)
            self.assertEqual(parts(told), (by, moments, [(*span[:4], None) for span in spans], ties))
            self.assertIs(type(told), Web)
            self.assertEqual(state(web), before)

    def test_written(self):
        web = with_moments("a", 9).with_span("e", "a", 1, 2).with_span("f", "start", 3, 3, late=7)
        told = with_moments("a", 9).with_span("e", "a", 1, 2, late=None).with_span("f", "start", 3, 3, late=None)
        self.assertEqual(deaf(web=web), told)
        self.assertEqual(deaf(told), told)
        self.assertEqual(deaf(Web(7)), Web(7))

    def test_rests_with_more_ties(self):
        web = with_moments("ab", 900)
        for _ in range(40):
            web = web.with_tie("a", "b", most=900)
        rest = Waiter(web).rest()
        self.assertEqual(len(rest.ties()), 42)
        self.assertEqual(parts(deaf(rest)), parts(rest))
        self.assertIs(foreseen(rest), True)
        self.assertEqual(soonest(rest), 1)
        self.assertEqual(culprits(rest), [])


class Foreseen(Case):
    def test_many_small_webs_by_a_search(self):
        rng = random.Random(31)
        answers = []
        for _ in range(1200):
            web = small_random_web(rng)
            before = state(web)
            answers.append(foreseen(web))
            self.assertIs(answers[-1], foreseen_by_search(web), parts(web))
            self.assertEqual(state(web), before)
        self.assertGreater(answers.count(True), 300)
        self.assertGreater(answers.count(False), 300)

    def test_between_deaf_and_foreseen(self):
        found = []
        for web in random_webs(32, 600):
            answers = (steered(deaf(web)), steered(web), foreseen(web))
            self.assertEqual(list(answers), sorted(answers), parts(web))
            found.append(answers)
        # Each of the three says more than the one ahead of it.
        for answers in itertools.combinations_with_replacement((False, True), 3):
            self.assertIn(answers, found)

    def test_written(self):
        web = with_moments("a", 20).with_span("e", "start", 2, 9, late=None).with_tie("a", "e", least=1, most=1)
        self.assertIs(foreseen(web=web), True)
        self.assertIs(steered(web), False)
        self.assertIs(foreseen(web.with_tie("start", "a", least=2)), False)
        self.assertIs(foreseen(web.with_tie("start", "a", most=7)), False)
        self.assertIs(foreseen(web.with_tie("start", "a", least=1, most=8)), True)
        self.assertIs(foreseen(web.with_by(8)), True)
        self.assertIs(foreseen(web.with_by(7)), False)
        self.assertIs(foreseen(Web()), True)

    def test_lengths_of_two_spans_against_each_other(self):
        web = Web(9).with_span("e", "start", 2, 9).with_span("f", "start", 3, 5)
        for least, most in itertools.product(range(-8, -3), range(1, 6)):
            tied = web.with_tie("e", "f", least=least, most=most)
            self.assertIs(foreseen(tied), least <= -6 and most >= 3)


class Corners(Case):
    def test_order(self):
        web = Web().with_span("f", "start", 3, 8).with_span("e", "start", 1, 2, late=None)
        self.assertEqual(corners(web=web), [{"f": 3, "e": 1}, {"f": 3, "e": 2}, {"f": 8, "e": 1}, {"f": 8, "e": 2}])
        web = web.with_span("g", "start", 4, 5, late=6)
        self.assertEqual([tuple(each.values()) for each in corners(web)],
                         [(3, 1, 4), (3, 1, 5), (3, 2, 4), (3, 2, 5), (8, 1, 4), (8, 1, 5), (8, 2, 4), (8, 2, 5)])

    def test_one_length_stands_once(self):
        web = Web().with_span("e", "start", 7, 7).with_span("f", "start", 1, 3).with_span("g", "start", 2, 2)
        self.assertEqual(corners(web), [{"e": 7, "f": 1, "g": 2}, {"e": 7, "f": 3, "g": 2}])
        self.assertEqual(corners(Web().with_span("e", "start", 1000, 1000)), [{"e": 1000}])

    def test_without_spans(self):
        self.assertEqual(corners(Web()), [{}])
        self.assertEqual(corners(with_moments("ab")), [{}])

    def test_by_a_product(self):
        for web in random_webs(33, 100):
            ways = [[(end, length) for length in sorted({low, high})] for end, begin, low, high, late in web.spans()]
            self.assertEqual(corners(web), [dict(chosen) for chosen in itertools.product(*ways)])

    def test_made_anew(self):
        web = Web().with_span("e", "start", 1, 2).with_span("f", "start", 1, 2)
        told = corners(web)
        self.assertEqual(len({id(each) for each in told}), 4)
        for each in told:
            self.assertIs(type(each), dict)
            each.clear()
        told.clear()
        self.assertEqual(len(corners(web)), 4)
        self.assertEqual(corners(web)[3], {"e": 2, "f": 2})
        empty = corners(Web())
        empty[0]["e"] = 1
        self.assertEqual(corners(Web()), [{}])


class Greatest(Case):
    def test_widest(self):
        rng = random.Random(34)
        reached = []
        for web, proof in settled_webs(rng, 150, "yes"):
            before = state(web)
            for end, begin, low, high, late in web.spans():
                most = widest(web, end)
                reached.append(most == 1000)
                self.assertIs(type(most), int)
                self.assertTrue(high <= most <= 1000)
                self.assertTrue(steered(with_span_as(web, end, high=most)))
                self.assertTrue(most == 1000 or not steered(with_span_as(web, end, high=most + 1)))
            self.assertEqual(state(web), before)
        self.assertTrue(reached.count(True) > 20 and reached.count(False) > 20)

    def test_deafest(self):
        rng = random.Random(35)
        reached = []
        for web, proof in settled_webs(rng, 150, "yes"):
            before = state(web)
            for end, begin, low, high, late in [span for span in web.spans() if span[4] is not None]:
                most = deafest(web, end)
                reached.append(most == 1000)
                self.assertIs(type(most), int)
                self.assertTrue(late <= most <= 1000)
                self.assertTrue(steered(with_span_as(web, end, late=most)))
                self.assertTrue(most == 1000 or not steered(with_span_as(web, end, late=most + 1)))
            self.assertEqual(state(web), before)
        self.assertTrue(reached.count(True) > 20 and reached.count(False) > 20, reached.count(False))

    def test_soonest(self):
        reached = []
        for web, proof in settled_webs(random.Random(36), 200, "yes"):
            before = state(web)
            least = soonest(web)
            reached.append(least == 1)
            self.assertIs(type(least), int)
            self.assertTrue(1 <= least <= web.by)
            self.assertTrue(steered(web.with_by(least)))
            self.assertTrue(least == 1 or not steered(web.with_by(least - 1)))
            self.assertEqual(state(web), before)
        self.assertTrue(reached.count(True) > 20 and reached.count(False) > 20)

    def test_each_number_by_one_span_and_one_moment(self):
        web = with_moments("a", 1000).with_span("e", "start", 3, 5, late=2)
        for most in (2, 3, 4, 7, 50, 997, 998, 999, 1000):
            # When it isn't heard by the last tick, it comes in the last ticks.
            self.assertEqual(widest(web.with_tie("e", "a", least=0, most=most), "e"), 1000)
        for most in range(10):
            # From 6 ticks on a can go 9 ticks behind start, whatever is heard.
            deafer = with_moments("a", 1000).with_span("e", "start", 3, 9).with_tie("e", "a", least=0, most=most)
            self.assertEqual(deafest(deafer, "e"), 1000 if most >= 6 else most)
        for most in (2, 30, 999, 1000):
            self.assertEqual(widest(web.with_tie("start", "e", most=max(most, 5)), "e"), max(most, 5))
        for least in (1, 2, 500, 1000):
            self.assertEqual(soonest(web.with_tie("start", "a", least=least)), least)

    def test_already_at_the_bound(self):
        web = with_moments("a", 1).with_span("e", "start", 1000, 1000, late=1000)
        self.assertEqual((widest(web, "e"), deafest(web, "e"), soonest(web)), (1000, 1000, 1))
        self.assertEqual(soonest(Web(1)), 1)
        self.assertEqual(soonest(Web(1000)), 1)
        tight = with_moments("a", 1000).with_tie("start", "a", least=1000)
        self.assertEqual(soonest(web=tight), 1000)

    def test_a_span_never_heard_has_a_widest(self):
        web = with_moments("a", 50).with_span("e", "a", 2, 5, late=None).with_tie("start", "e", most=40)
        self.assertEqual(widest(web=web, end="e"), 40)
        self.assertEqual(widest(web.with_tie("start", "a", least=9), "e"), 31)

    def test_no_such_span(self):
        web = with_moments("a", 9).with_span("e", "a", 1, 2).with_span("f", "a", 1, 2, late=None)
        loose, tight = web, web.with_tie("start", "a", least=10)
        for name in ("a", "start", "z", "ee", *NO_NAMES):
            for each in (loose, tight):
                self.check_refused(NoSpan, {"name": name}, widest, each, name)
                self.check_refused(NoSpan, {"name": name}, deafest, each, name)
                self.check_refused(NoSpan, {"name": name}, deafest, end=name, web=each)

    def test_never_heard_ahead_of_unsteered(self):
        web = with_moments("a", 9).with_span("e", "a", 1, 2).with_span("f", "a", 1, 2, late=None)
        self.check_refused(BadLate, {"late": None}, deafest, web, "f")
        self.check_refused(BadLate, {"late": None}, deafest, web.with_tie("start", "a", least=10), "f")

    def test_unsteered(self):
        web = with_moments("a", 9).with_span("e", "a", 1, 2).with_span("f", "a", 1, 2, late=None)
        tight = web.with_tie("start", "a", least=10)
        before = state(tight)
        self.check_refused(Unsteered, {}, widest, tight, "e")
        self.check_refused(Unsteered, {}, widest, tight, "f")
        self.check_refused(Unsteered, {}, deafest, tight, "e")
        self.check_refused(Unsteered, {}, soonest, tight)
        self.assertEqual(state(tight), before)
        for each, proof in settled_webs(random.Random(37), 50, "no"):
            self.check_refused(Unsteered, {}, soonest, each)
            for end, begin, low, high, late in each.spans():
                self.check_refused(Unsteered, {}, widest, each, end)


class Culprits(Case):
    def test_one(self):
        web = with_moments("ab", 9).with_tie("a", "b", least=0).with_tie("start", "a", least=10)
        self.assertEqual(culprits(web=web), [1])

    def test_several(self):
        web = with_moments("ab", 9).with_tie("start", "b", most=4).with_tie("b", "start", least=-9)
        web = web.with_tie("a", "b", least=3).with_tie("start", "a", least=2)
        self.assertEqual(culprits(web), [0, 2, 3])

    def test_ties_that_stand_twice(self):
        web = with_moments("ab", 9).with_tie("start", "a", least=10)
        self.assertEqual(culprits(web), [0])
        self.assertEqual(culprits(web.with_tie("start", "a", least=10)), [])
        web = with_moments("ab", 9).with_tie("a", "b", least=5).with_tie("a", "b", least=5).with_tie("a", "b", most=4)
        self.assertEqual(culprits(web), [2])

    def test_none(self):
        web = with_moments("ab", 9).with_tie("start", "a", least=10).with_tie("start", "b", least=10)
        self.assertEqual(culprits(web), [])
        # Two ties that can't be kept, each by itself.
        web = with_moments("a", 9).with_tie("start", "a", most=-1).with_tie("start", "a", least=10)
        self.assertEqual(culprits(web), [])

    def test_a_steered_web_has_none(self):
        for web, proof in settled_webs(random.Random(38), 100, "yes"):
            self.assertEqual(culprits(web), [])
        self.assertEqual(culprits(Web()), [])

    def test_by_the_words(self):
        counts = []
        for web, proof in settled_webs(random.Random(39), 200, "no"):
            before = state(web)
            told = culprits(web)
            self.assertIs(type(told), list)
            counts.append(len(told))
            self.assertEqual(told, [at for at in range(len(web.ties())) if steered(web.without_tie(at))])
            self.assertEqual(state(web), before)
            told.append(99)
            self.assertEqual(len(culprits(web)), counts[-1])
        for count in (0, 1, 2, 3):
            self.assertIn(count, counts)

    def test_forty_ties(self):
        web = with_moments("abcdefghij", 1000).with_span("p", "a", 1, 9).with_span("q", "c", 2, 30, late=4)
        for one, other in itertools.islice(itertools.cycle(zip("abcdefghi", "bcdefghij")), 39):
            web = web.with_tie(one, other, least=1)
        self.assertEqual(culprits(web.with_tie("a", "j", most=8)), [39])


if __name__ == "__main__":
    unittest.main()
