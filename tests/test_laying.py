"""Points [11] and [12]: bases, offsets and told bounds."""

import itertools
import unittest

from tidewaiter.errors import NoPoint
from tidewaiter.laying import bases, bounds, heard_spans, offset
from tidewaiter.web import Web
from helpers import NO_NAMES, Case, state, with_moments


def three_spans():
    """Ends heard at once (now), late (slow) and never (mute)."""
    web = with_moments(["a", "b"], 50).with_span("mute", "a", 3, 7, late=None)
    return web.with_span("now", "start", 1, 4).with_span("slow", "b", 2, 2, late=10)


class Laying(Case):
    def test_bases(self):
        self.assertEqual(bases(Web()), ["start"])
        self.assertEqual(bases(three_spans()), ["start", "a", "b", "now", "slow"])
        self.assertEqual(bases(Web().with_span("e", "start", 1, 2, late=None)), ["start"])

    def test_bases_in_the_order_of_the_web(self):
        web = Web().with_span("e", "start", 1, 2).with_moment("z").with_span("c", "z", 1, 2).with_moment("a")
        self.assertEqual(bases(web), ["start", "z", "a", "e", "c"])

    def test_offsets(self):
        told = {"start": ("start", 0, 0), "a": ("a", 0, 0), "b": ("b", 0, 0), "mute": ("a", 3, 7),
                "now": ("now", 0, 0), "slow": ("slow", -10, -10)}
        web = three_spans()
        self.assertEqual({name: offset(web, name) for name in web.points()}, told)
        for name in web.points():
            self.assertIs(type(offset(web, name)), tuple)
        self.assertEqual(offset(Web().with_span("e", "start", 1, 1000, late=None), "e"), ("start", 1, 1000))
        self.assertEqual(offset(Web().with_span("e", "start", 1, 1000, late=1000), "e"), ("e", -1000, -1000))

    def test_no_point(self):
        for name in ("c", "startt", "nows", *NO_NAMES):
            self.check_refused(NoPoint, {"name": name}, offset, three_spans(), name)

    def test_heard_spans(self):
        self.assertEqual(heard_spans(Web()), [])
        self.assertEqual(heard_spans(three_spans()), [("now", "start", 1, 4), ("slow", "b", 12, 12)])
        self.assertEqual(heard_spans(Web().with_span("e", "start", 1, 1000, late=1000)),
                         [("e", "start", 1001, 2000)])

    def test_bounds_of_moments_and_spans(self):
        self.assertEqual(bounds(Web()), [])
        self.assertEqual(bounds(with_moments(["b", "a"], 9)),
                         [("start", "b", 9), ("b", "start", 0), ("start", "a", 9), ("a", "start", 0)])
        self.assertEqual(bounds(three_spans())[4:], [("start", "now", 4), ("now", "start", -1),
                                                     ("b", "slow", 12), ("slow", "b", -12)])

    def tie_bounds(self, one, other, least=None, most=None):
        web = three_spans()
        told = bounds(web.with_tie(one, other, least=least, most=most))
        self.assertEqual(told[:8], bounds(web))
        return told[8:]

    def test_most_stands_ahead_of_least(self):
        self.assertEqual(self.tie_bounds("a", "b", 2, 5), [("a", "b", 5), ("b", "a", -2)])
        self.assertEqual(self.tie_bounds("a", "b", most=5), [("a", "b", 5)])
        self.assertEqual(self.tie_bounds("a", "b", least=2), [("b", "a", -2)])
        self.assertEqual(self.tie_bounds("a", "b", 0, 0), [("a", "b", 0), ("b", "a", 0)])
        self.assertEqual(self.tie_bounds("start", "a", -4, -1), [("start", "a", -1), ("a", "start", 4)])

    def test_ties_of_heard_ends(self):
        self.assertEqual(self.tie_bounds("now", "a", 2, 5), [("now", "a", 5), ("a", "now", -2)])
        self.assertEqual(self.tie_bounds("slow", "a", 2, 5), [("slow", "a", -5), ("a", "slow", 8)])
        self.assertEqual(self.tie_bounds("a", "slow", 2, 5), [("a", "slow", 15), ("slow", "a", -12)])
        self.assertEqual(self.tie_bounds("now", "slow", 2, 5), [("now", "slow", 15), ("slow", "now", -12)])

    def test_ties_of_ends_never_heard(self):
        self.assertEqual(self.tie_bounds("mute", "b", 2, 5), [("a", "b", 8), ("b", "a", -9)])
        self.assertEqual(self.tie_bounds("b", "mute", 2, 5), [("b", "a", -2), ("a", "b", 1)])
        self.assertEqual(self.tie_bounds("mute", "slow", 2, 5), [("a", "slow", 18), ("slow", "a", -19)])

    def test_two_points_of_one_base(self):
        self.assertEqual(self.tie_bounds("a", "mute", 2, 5), [("a", "a", -2), ("a", "a", 1)])
        self.assertEqual(self.tie_bounds("mute", "a", -9, -3), [("a", "a", 0), ("a", "a", 2)])
        web = three_spans().with_span("dumb", "a", 1, 9, late=None).with_tie("mute", "dumb", least=-6, most=6)
        self.assertEqual(bounds(web)[8:], [("a", "a", 0), ("a", "a", 0)])

    def test_ties_in_their_order(self):
        web = three_spans().with_tie("b", "a", most=1).with_tie("a", "b", least=0, most=3).with_tie("b", "a", least=0)
        self.assertEqual(bounds(web)[8:], [("b", "a", 1), ("a", "b", 3), ("b", "a", 0), ("a", "b", 0)])

    def test_told_lists_are_made_anew(self):
        web = three_spans().with_tie("a", "mute", least=1, most=9)
        for ask in (bases, bounds, heard_spans):
            before = (list(ask(web)), state(web))
            self.assertIs(type(ask(web)), list)
            ask(web).clear()
            ask(web).append("x")
            self.assertEqual((ask(web), state(web)), before)
        for row in bounds(web) + heard_spans(web):
            self.assertIs(type(row), tuple)


def tick_choices(web):
    """Ticks of all moments from one ahead of nought to one beyond by."""
    moments = web.moments()
    for ticks in itertools.product(range(-1, web.by + 2), repeat=len(moments)):
        yield {"start": 0, **dict(zip(moments, ticks))}


def length_choices(spans, beyond):
    ranges = [range(low - beyond, high + beyond + 1) for end, begin, low, high, late in spans]
    return [dict(zip([span[0] for span in spans], lengths)) for lengths in itertools.product(*ranges)]


def ties_hold(web, ticks):
    return all((least is None or ticks[other] - ticks[one] >= least)
               and (most is None or ticks[other] - ticks[one] <= most) for one, other, least, most in web.ties())


def kept_whatever_is_not_heard(web, ticks, lengths):
    """By point [9]: ticks and heard lengths in their bounds, all ties kept for all lengths never heard."""
    heard = [span for span in web.spans() if span[4] is not None]
    if not all(0 <= ticks[moment] <= web.by for moment in web.moments()):
        return False
    if not all(low <= lengths[end] <= high for end, begin, low, high, late in heard):
        return False
    for others in length_choices([span for span in web.spans() if span[4] is None], 0):
        known = {**lengths, **others}
        ends = {end: ticks[begin] + known[end] for end, begin, low, high, late in web.spans()}
        if not ties_hold(web, {**ticks, **ends}):
            return False
    return True


def bounds_hold(told, web, ticks, lengths):
    heard = {end: ticks[begin] + lengths[end] + late for end, begin, low, high, late in web.spans()
             if late is not None}
    known = {**ticks, **heard}
    return all(known[y] - known[x] <= amount for x, y, amount in told)


class AllTicksAndLengths(unittest.TestCase):
    """The told bounds hold just where the ties do."""

    def check_web(self, web):
        told = bounds(web)
        heard = [span for span in web.spans() if span[4] is not None]
        for ticks in tick_choices(web):
            for lengths in length_choices(heard, 1):
                self.assertEqual(bounds_hold(told, web, ticks, lengths),
                                 kept_whatever_is_not_heard(web, ticks, lengths), (web.spans(), web.ties(), ticks))

    def webs(self):
        lates = (0, 2, None)
        for one, other in itertools.product(lates, lates):
            web = with_moments(["a"], 4).with_span("e", "start", 1, 3, late=one)
            yield web.with_span("f", "a", 2, 3, late=other)
            yield web.with_span("f", "start", 2, 3, late=other)

    def test_one_tie_between_any_two_points(self):
        for web in self.webs():
            self.check_web(web)
            for one, other in itertools.permutations(web.points(), 2):
                for least, most in ((None, 1), (-1, None), (-2, 2), (0, 3), (1, 1), (-3, -1)):
                    self.check_web(web.with_tie(one, other, least=least, most=most))

    def test_several_ties(self):
        web = with_moments(["a", "b"], 3).with_span("e", "a", 1, 2, late=1).with_span("f", "b", 1, 2, late=None)
        self.check_web(web.with_tie("e", "b", least=-1, most=1).with_tie("f", "e", least=-3).with_tie("a", "f", most=4))
        self.check_web(web.with_tie("f", "b", least=-2, most=-1).with_tie("start", "e", most=4))
        self.check_web(web.with_tie("b", "f", most=1))


if __name__ == "__main__":
    unittest.main()
