"""Point [34]: the webs of plans, and the first reading that is steered."""

import copy
import random
import unittest
from unittest import mock

from tidewaiter.errors import BadBy, BadPlan, Full
from tidewaiter.plans import chosen, laid, readings
from tidewaiter.settle import steered
from tidewaiter.web import Web
from helpers import HUGE, TRUTHS, Case, parts, random_good_plan

OURS = ("ours", 2, 5)
RAIN = ("weather", 1, 4, 0)
# No web can be steered with it, but it can be laid.
NEVER = ("within", 0, ("ours", 1, 2))


class Model:
    """What a plan is laid as by the words of point [34], as three lists; full is the first bound passed."""

    def __init__(self):
        self.moments, self.spans, self.ties, self.made, self.full = [], [], [], 0, None

    def put(self, rows, row, most):
        if len(rows) == most and self.full is None:
            self.full = most
        rows.append(row)

    def name(self):
        self.made += 1
        return "abcdefghijklmnopqrstuvwxyz"[self.made - 1]

    def moment(self):
        name = self.name()
        self.put(self.moments, name, 10)
        return name

    def tie(self, *row):
        self.put(self.ties, row, 40)

    def lay(self, plan, begin):
        return getattr(self, plan[0])(begin, *plan[1:])

    def ours(self, begin, least, most):
        end = self.moment()
        self.tie(begin, end, least, most)
        return end

    def weather(self, begin, low, high, late):
        end = self.name()
        self.put(self.spans, (end, begin, low, high, late), 4)
        moment = self.moment()
        self.tie(end, moment, 0, None)
        return moment

    def then(self, begin, plans):
        for plan in plans:
            begin = self.lay(plan, begin)
        return begin

    def beside(self, begin, plans):
        ends = [self.lay(plan, begin) for plan in plans]
        if len(ends) == 1:
            return ends[0]
        moment = self.moment()
        for end in ends:
            self.tie(end, moment, 0, None)
        return moment

    def within(self, begin, most, plan):
        end = self.lay(plan, begin)
        self.tie(begin, end, None, most)
        return end


class Laid(Case):
    def check(self, plan, moments, spans, ties, by=100):
        before = copy.deepcopy(plan)
        web = laid(plan, by=by)
        self.assertEqual(parts(web), (by, moments, spans, ties))
        self.assertIs(type(web), Web)
        self.assertEqual(plan, before)

    def test_ours(self):
        self.check(OURS, ["a"], [], [("start", "a", 2, 5)])
        self.check(("ours", 0, 1000), ["a"], [], [("start", "a", 0, 1000)])

    def test_weather(self):
        self.check(RAIN, ["b"], [("a", "start", 1, 4, 0)], [("a", "b", 0, None)])
        self.check(("weather", 7, 7, None), ["b"], [("a", "start", 7, 7, None)], [("a", "b", 0, None)])
        self.check(("weather", 1, 1000, 1000), ["b"], [("a", "start", 1, 1000, 1000)], [("a", "b", 0, None)])

    def test_then(self):
        self.check(("then", [OURS]), ["a"], [], [("start", "a", 2, 5)])
        self.check(("then", [OURS, RAIN, ("ours", 0, 1)]), ["a", "c", "d"], [("b", "a", 1, 4, 0)],
                   [("start", "a", 2, 5), ("b", "c", 0, None), ("c", "d", 0, 1)])

    def test_beside(self):
        self.check(("beside", [OURS]), ["a"], [], [("start", "a", 2, 5)])
        self.check(("beside", [OURS, RAIN, ("ours", 0, 1)]), ["a", "c", "d", "e"], [("b", "start", 1, 4, 0)],
                   [("start", "a", 2, 5), ("b", "c", 0, None), ("start", "d", 0, 1),
                    ("a", "e", 0, None), ("c", "e", 0, None), ("d", "e", 0, None)])

    def test_within(self):
        self.check(("within", 9, OURS), ["a"], [], [("start", "a", 2, 5), ("start", "a", None, 9)])
        self.check(("within", 0, RAIN), ["b"], [("a", "start", 1, 4, 0)],
                   [("a", "b", 0, None), ("start", "b", None, 0)])
        self.check(("within", 9, ("then", [OURS, ("within", 7, OURS)])), ["a", "b"], [],
                   [("start", "a", 2, 5), ("a", "b", 2, 5), ("a", "b", None, 7), ("start", "b", None, 9)])

    def test_kinds_in_one_another(self):
        plan = ("then", [("beside", [RAIN, ("then", [OURS, ("weather", 2, 3, None)])]),
                         ("within", 8, ("beside", [("within", 3, OURS), ("beside", [OURS])])), OURS])
        self.check(plan, ["b", "c", "e", "f", "g", "h", "i", "j"],
                   [("a", "start", 1, 4, 0), ("d", "c", 2, 3, None)],
                   [("a", "b", 0, None), ("start", "c", 2, 5), ("d", "e", 0, None), ("b", "f", 0, None),
                    ("e", "f", 0, None), ("f", "g", 2, 5), ("f", "g", None, 3), ("f", "h", 2, 5),
                    ("g", "i", 0, None), ("h", "i", 0, None), ("f", "i", None, 8), ("i", "j", 2, 5)], by=77)

    def test_by_the_words(self):
        rng = random.Random(34)
        fulls = []
        for _ in range(3000):
            plan = random_good_plan(rng, rng.randint(1, 6), ("then", "beside", "within", "within"), 4)
            model = Model()
            model.lay(plan, "start")
            fulls.append(model.full)
            if model.full is None:
                self.check(plan, model.moments, model.spans, model.ties, by=rng.randint(1, 1000))
            else:
                self.check_refused(Full, {"most": model.full}, laid, plan)
        for count in (None, 4, 10):
            self.assertGreater(fulls.count(count), 50)

    def test_last_tick(self):
        self.assertEqual(laid(OURS).by, 100)
        for by in (1, 2, 999, 1000):
            self.assertEqual(laid(plan=OURS, by=by).by, by)

    def test_bad_by(self):
        for by in (0, 1001, -1, HUGE, None, "9", 9.0, (9,), mock.ANY, *TRUTHS):
            self.check_refused(BadBy, {"by": by}, laid, OURS, by=by)
            self.check_refused(BadBy, {"by": by}, chosen, OURS, by=by)
            self.check_refused(BadBy, {"by": by}, laid, ("then", [("then", [RAIN] * 4), RAIN]), by=by)

    def test_an_either_is_refused_first(self):
        for plan in (("either", [OURS]), ("then", [OURS, ("either", [OURS, RAIN])]),
                     ("within", 3, ("beside", [("either", [RAIN])])), ("then", [("then", [RAIN] * 4), RAIN,
                                                                              ("either", [OURS])])):
            self.check_refused(BadPlan, {}, laid, plan)
            self.check_refused(BadPlan, {}, laid, plan, by=0)
        for wrong in (None, (), OURS[:2], ("then", [OURS] * 5), ("ours", 3, 2), ("then", (OURS,))):
            self.check_refused(BadPlan, {}, laid, wrong, by=0)
            self.check_refused(BadPlan, {}, laid, wrong, by=9)

    def test_full_of_moments(self):
        ten = ("then", [("then", [OURS] * 4), ("then", [OURS] * 4), ("then", [OURS] * 2)])
        self.assertEqual(laid(ten).moments(), list("abcdefghij"))
        self.check_refused(Full, {"most": 10}, laid, ("then", [*ten[1], OURS]))
        self.check_refused(BadBy, {"by": 0}, laid, ("then", [*ten[1], OURS]), by=0)
        # The moment behind all the others is one, too.
        self.check_refused(Full, {"most": 10}, laid, ("beside", ten[1]))

    def test_full_of_spans(self):
        four = ("then", [RAIN] * 4)
        self.assertEqual(len(laid(four).spans()), 4)
        self.check_refused(Full, {"most": 4}, laid, ("beside", [four, RAIN]))

    def test_the_first_bound_that_is_passed(self):
        many, rains = ("then", [OURS] * 4), ("then", [RAIN] * 4)
        # 10 moments are made, and then there is a fifth span; or an eleventh moment ahead of it.
        self.check_refused(Full, {"most": 4}, laid, ("then", [rains, RAIN, many]))
        self.check_refused(Full, {"most": 10}, laid, ("then", [many, rains, ("then", [OURS] * 3), RAIN]))
        self.check_refused(Full, {"most": 4}, laid, ("then", [many, ("then", [OURS, OURS]), rains, RAIN]))
        # A fourth span may stand where its moment may not.
        self.check_refused(Full, {"most": 10}, laid,
                           ("then", [many, ("then", [OURS] * 3), ("then", [RAIN] * 3), RAIN]))

    def test_full_of_ties(self):
        def wrapped(plan, count):
            for _ in range(count):
                plan = ("within", 9, plan)
            return plan
        deep, deeper = wrapped(OURS, 3), wrapped(OURS, 4)
        four = ("beside", [deep] * 4)
        self.assertEqual(len(laid(("then", [deeper, four, ("then", [deep] * 3)])).ties()), 37)
        self.assertEqual(len(laid(("then", [four, deeper, wrapped(OURS, 2), ("then", [deep] * 3)])).ties()), 40)
        self.check_refused(Full, {"most": 40}, laid, ("then", [four, deeper, deep, ("then", [deep] * 3)]))
        self.check_refused(Full, {"most": 40}, laid, ("then", [deeper, four, deeper, ("then", [deep] * 3)]))
        self.check_refused(BadBy, {"by": 1001}, laid, ("then", [four, deeper, deep, ("then", [deep] * 3)]), by=1001)


class Chosen(Case):
    def test_the_first_steered_reading(self):
        one, other = ("ours", 1, 2), ("ours", 3, 4)
        self.assertEqual(chosen(OURS), OURS)
        self.assertEqual(chosen(("either", [one, other])), one)
        self.assertEqual(chosen(("either", [NEVER, other, one])), other)
        self.assertEqual(chosen(plan=("then", [("either", [NEVER, other]), ("either", [NEVER, one, other])])),
                         ("then", [other, one]))

    def test_none(self):
        self.assertIsNone(chosen(NEVER))
        self.assertIsNone(chosen(("either", [NEVER, ("then", [OURS, NEVER])])))
        self.assertIsNone(chosen(("then", [NEVER, ("either", [OURS, RAIN])])))

    def test_the_last_tick_counts(self):
        plan = ("either", [("ours", 9, 9), ("ours", 7, 7)])
        self.assertEqual(chosen(plan), ("ours", 9, 9))
        self.assertEqual(chosen(plan, by=9), ("ours", 9, 9))
        self.assertEqual(chosen(plan, by=8), ("ours", 7, 7))
        self.assertIsNone(chosen(plan=plan, by=6))

    def test_refusals(self):
        full = ("then", [("then", [RAIN] * 4), RAIN])
        self.assertEqual(chosen(("either", [OURS, full])), OURS)
        self.check_refused(Full, {"most": 4}, chosen, ("either", [full, OURS]))
        self.check_refused(Full, {"most": 4}, chosen, ("either", [NEVER, full, OURS]))
        self.check_refused(Full, {"most": 4}, chosen, ("either", [NEVER, full]))
        self.check_refused(Full, {"most": 4}, chosen, full)
        self.check_refused(BadBy, {"by": 0}, chosen, ("either", [full, OURS]), by=0)
        self.check_refused(BadPlan, {}, chosen, ("either", [OURS, ("ours", 3, 2)]))
        self.check_refused(BadPlan, {}, chosen, ("either", []), by=0)

    def test_by_the_words(self):
        rng = random.Random(35)
        found = []
        for _ in range(300):
            plan = random_good_plan(rng, 4)
            before = copy.deepcopy(plan)
            by = rng.randint(1, 30)
            try:
                found.append(chosen(plan, by=by))
            except Full:
                found.append("full")
            self.assertEqual(found[-1], chosen_by_the_words(plan, by))
            self.assertEqual(plan, before)
        self.assertGreater(found.count(None), 10)
        self.assertGreater(found.count("full"), 2)

    def test_made_anew(self):
        plan = ("then", [("beside", [OURS])])
        told = chosen(plan)
        self.assertEqual(told, plan)
        told[1][0][1].append(RAIN)
        told[1].clear()
        self.assertEqual(plan, ("then", [("beside", [OURS])]))


def chosen_by_the_words(plan, by):
    for way in readings(plan):
        model = Model()
        model.lay(way, "start")
        if model.full is not None:
            return "full"
        if steered(laid(way, by=by)):
            return way
    return None


if __name__ == "__main__":
    unittest.main()
