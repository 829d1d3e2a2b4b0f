"""Points [32] and [33]: what is a plan, and its readings."""

import copy
import random
import unittest
from unittest import mock

from tidewaiter.errors import BadPlan
from tidewaiter.plans import chosen, laid, need_plan, readings
from helpers import HUGE, TRUTHS, Case, is_plan, random_good_plan

OURS = ("ours", 2, 5)
RAIN = ("weather", 1, 4, 0)
NO_NUMBERS = (None, "", "1", 1.0, (1,), [1], {}, mock.ANY, *TRUTHS)


def nested(word, depth):
    """A plan of this depth, of one word but for its inmost ours."""
    plan = OURS
    for _ in range(depth - 1):
        plan = (word, 9, plan) if word == "within" else (word, [plan])
    return plan


def either_of(count):
    """An either with so many plans."""
    return ("either", [("ours", at, 9) for at in range(count)])


class Needed(Case):
    def check_good(self, plan):
        before = copy.deepcopy(plan)
        self.assertIsNone(need_plan(plan))
        self.assertIsNone(need_plan(plan=plan))
        self.assertEqual(plan, before)

    def check_bad(self, plan):
        """Refused alone, and inside of others."""
        for wrong in (plan, ("then", [OURS, plan]), ("beside", [plan]), ("either", [OURS, plan]), ("within", 9, plan)):
            for ask in (need_plan, readings, laid, chosen):
                self.check_refused(BadPlan, {}, ask, wrong)

    def test_ours(self):
        for least, most in ((0, 0), (0, 1), (0, 1000), (1000, 1000), (7, 9)):
            self.check_good(("ours", least, most))
        for least, most in ((-1, 0), (-1, -1), (1, 0), (1000, 999), (0, 1001), (1001, 1001), (0, HUGE), (-HUGE, 3)):
            self.check_bad(("ours", least, most))

    def test_weather(self):
        for low, high, late in ((1, 1, 0), (1, 1000, 0), (1000, 1000, 1000), (3, 4, None), (2, 5, 1)):
            self.check_good(("weather", low, high, late))
        for low, high, late in ((0, 1, 0), (0, 0, 0), (-1, 1, 0), (2, 1, 0), (1, 1001, 0), (1001, 1001, 0),
                                (1, 2, -1), (1, 2, 1001), (1, 2, HUGE), (HUGE, HUGE, 0)):
            self.check_bad(("weather", low, high, late))

    def test_within(self):
        for most in (0, 1, 999, 1000):
            self.check_good(("within", most, OURS))
        for most in (-1, 1001, HUGE, -HUGE):
            self.check_bad(("within", most, OURS))

    def test_what_is_no_number(self):
        for wrong in NO_NUMBERS:
            self.check_bad(("ours", wrong, 5))
            self.check_bad(("ours", 0, wrong))
            self.check_bad(("weather", wrong, 5, 0))
            self.check_bad(("weather", 1, wrong, 0))
            self.check_bad(("within", wrong, OURS))
            if wrong is not None:
                self.check_bad(("weather", 1, 5, wrong))

    def test_truths_where_their_numbers_would_do(self):
        for wrong in (("ours", False, 5), ("ours", 0, True), ("weather", True, 5, 0), ("weather", 1, True, 0),
                      ("weather", 1, 5, False), ("weather", 1, 5, True), ("within", True, OURS),
                      ("within", False, OURS)):
            self.check_bad(wrong)

    def test_lists_of_one_to_four(self):
        for word in ("then", "beside", "either"):
            for count in range(1, 5):
                self.check_good((word, [OURS] * count))
            for count in (0, 5, 6):
                self.check_bad((word, [OURS] * count))

    def test_what_is_no_list(self):
        for word in ("then", "beside", "either"):
            for plans in ((OURS,), (OURS, RAIN), OURS, None, 1, "ours", {0: OURS}, {}, (), mock.ANY):
                self.check_bad((word, plans))
            self.check_bad((word, OURS, RAIN))
            self.check_bad((word, [OURS], [RAIN]))

    def test_what_is_no_plan_at_all(self):
        for wrong in (None, 0, 1, "", "ours", "ours 2 5", [], (), {}, {"ours": 1}, object(), mock.ANY, *TRUTHS,
                      ["ours", 2, 5], [OURS], (OURS,), ((),), (None, 1, 2), (1, 2, 3), (("ours",), 2, 5),
                      (["ours"], 2, 5), (mock.ANY, 2, 5), (b"ours", 2, 5), ("", 2, 5), ("Ours", 2, 5),
                      ("ours ", 2, 5), ("our", 2, 5), ("rain", 1, 2, 0), ("so", [OURS])):
            self.check_bad(wrong)

    def test_more_or_fewer_things(self):
        for plan in (OURS, RAIN, ("then", [OURS]), ("beside", [OURS]), ("either", [OURS]), ("within", 9, OURS)):
            self.check_good(plan)
            for count in range(len(plan)):
                self.check_bad(plan[:count])
            for more in (None, 0, 5, OURS, [OURS], ()):
                self.check_bad((*plan, more))
        self.check_bad(("within", OURS, 9))
        self.check_bad(("within", 9, [OURS]))

    def test_a_wrong_plan_at_any_place(self):
        for word in ("then", "beside", "either"):
            for count in range(1, 5):
                for at in range(count):
                    for wrong in (("ours", 3, 2), None, [OURS], ()):
                        plans = [OURS] * count
                        plans[at] = wrong
                        self.check_bad((word, plans))

    def test_depth(self):
        for word in ("then", "beside", "within", "either"):
            for depth in range(1, 7):
                self.check_good(nested(word, depth))
            for depth in (7, 8, 20, 3000):
                self.check_refused(BadPlan, {}, need_plan, nested(word, depth))
                self.check_refused(BadPlan, {}, readings, nested(word, depth))
        mixed = ("then", [OURS, ("within", 3, ("either", [OURS, ("beside", [nested("then", 2)])]))])
        self.check_good(mixed)
        self.check_bad(("then", [RAIN, mixed]))
        self.check_good(("then", [RAIN, mixed[1][1]]))

    def test_a_list_that_has_itself(self):
        for word in ("then", "beside", "either"):
            plans = []
            plans.extend([(word, plans)] * 4)
            self.check_refused(BadPlan, {}, need_plan, (word, plans))

    def test_parts(self):
        for part in (OURS, RAIN):
            full = ("then", [("then", [part] * 4)] * 3)
            self.check_good(full)
            self.check_bad(("then", [*full[1], OURS]))
            self.check_bad(("then", [*full[1], RAIN]))
        for word in ("beside", "then"):
            self.check_good((word, [(word, [OURS, RAIN] * 2)] * 3))
            self.check_bad((word, [(word, [OURS, RAIN] * 2)] * 3 + [("within", 1, OURS)]))

    def test_each_plan_of_an_either_counts_among_the_parts(self):
        self.check_good(("either", [("either", [OURS] * 4)] * 3))
        self.check_bad(("either", [("either", [OURS] * 4)] * 3 + [OURS]))

    def test_most_readings(self):
        # With at most 12 parts there may be 63, 64, 72 and 81 readings, and none between these.
        for word in ("then", "beside"):
            for counts in ((4, 4, 4), (4, 4, 2, 2), (2, 2, 2, 2), (3, 3, 3, 2)):
                self.check_good((word, [either_of(count) for count in counts]))
            for counts in ((3, 3, 2, 4), (4, 2, 3, 3), (3, 3, 3, 3)):
                self.check_bad((word, [either_of(count) for count in counts]))

    def test_just_so_many(self):
        for counts, many in (((4, 4, 4), 64), ((3, 3, 3, 2), 54), ((1, 1), 1), ((4, 4, 2, 2), 64)):
            plan = ("then", [either_of(count) for count in counts])
            self.check_good(plan)
            self.assertEqual(len(readings(plan)), many)
        seven = ("either", [("then", [either_of(2), either_of(3)]), OURS])
        self.assertEqual(len(readings(("then", [seven, either_of(3), either_of(3)]))), 63)

    def test_ways_that_are_not_taken_do_not_count(self):
        self.check_good(("either", [either_of(4), either_of(4), either_of(4)]))
        self.assertEqual(len(readings(("either", [either_of(4)] * 3))), 12)


def readings_by_the_words(plan):
    """The readings, by choosing for the first either there is, again and again."""
    found, left = [], [plan]
    while left:
        first = left.pop(0)
        ways = first_choice(first)
        if ways is None:
            found.append(first)
        else:
            left = ways + left
    return found


def first_choice(plan):
    """The plans with one plan taken for the leftmost either, None where there is none."""
    if plan[0] == "either":
        return list(plan[1])
    if plan[0] == "within":
        ways = first_choice(plan[2])
        return None if ways is None else [("within", plan[1], way) for way in ways]
    for at, part in enumerate(plan[1] if plan[0] in ("then", "beside") else []):
        ways = first_choice(part)
        if ways is not None:
            return [(plan[0], [*plan[1][:at], way, *plan[1][at + 1:]]) for way in ways]
    return None


def lists_in(plan):
    if plan[0] == "within":
        return lists_in(plan[2])
    if plan[0] in ("ours", "weather"):
        return []
    return [plan[1]] + [each for part in plan[1] for each in lists_in(part)]


class Readings(Case):
    def test_without_either(self):
        for plan in (OURS, RAIN, ("then", [OURS, RAIN]), ("within", 3, ("beside", [RAIN, ("then", [OURS])]))):
            self.assertEqual(readings(plan), [plan])
            self.assertEqual(readings(plan=plan), [plan])

    def test_order(self):
        one, other, third = ("ours", 1, 1), ("ours", 2, 2), ("ours", 3, 3)
        two, plan = ("either", [one, other]), ("either", [third, one])
        self.assertEqual(readings(two), [one, other])
        self.assertEqual(readings(("then", [two, RAIN, plan])),
                         [("then", [one, RAIN, third]), ("then", [one, RAIN, one]),
                          ("then", [other, RAIN, third]), ("then", [other, RAIN, one])])
        self.assertEqual(readings(("beside", [plan, ("within", 4, two)])),
                         [("beside", [third, ("within", 4, one)]), ("beside", [third, ("within", 4, other)]),
                          ("beside", [one, ("within", 4, one)]), ("beside", [one, ("within", 4, other)])])

    def test_eithers_in_one_another(self):
        one, other, third, last = [("ours", at, at) for at in range(4)]
        plan = ("either", [("either", [one, other]), third, ("then", [("either", [last, one])])])
        self.assertEqual(readings(plan), [one, other, third, ("then", [last]), ("then", [one])])
        # What is chosen in a plan that is not taken doesn't count.
        plan = ("then", [("either", [("either", [one, other]), third]), ("either", [last, RAIN])])
        self.assertEqual(readings(plan), [("then", [first, second]) for first in (one, other, third)
                                          for second in (last, RAIN)])
        self.assertEqual(readings(("either", [("either", [OURS])])), [OURS])

    def test_equal_readings_are_kept(self):
        self.assertEqual(readings(("either", [OURS, OURS, OURS])), [OURS] * 3)
        self.assertEqual(readings(("then", [("either", [OURS, OURS])] * 2)), [("then", [OURS, OURS])] * 4)

    def test_by_the_words(self):
        rng = random.Random(33)
        counts = []
        for _ in range(1500):
            plan = random_good_plan(rng, rng.randint(1, 5))
            before = copy.deepcopy(plan)
            told = readings(plan)
            counts.append(len(told))
            self.assertEqual(told, readings_by_the_words(plan))
            self.assertIs(type(told), list)
            self.assertEqual(plan, before)
            self.check_apart_lists(plan, told)
        self.assertGreater(max(counts), 15)

    def check_apart_lists(self, plan, told):
        """No list stands in two readings, or in the plan."""
        held = [id(each) for way in [plan, *told] for each in lists_in(way)]
        self.assertEqual(len(held), len(set(held)))

    def test_lists_changed_behind(self):
        plan = ("then", [("either", [OURS, ("beside", [RAIN, OURS])]), ("beside", [OURS])])
        before = copy.deepcopy(plan)
        told = readings(plan)
        told[0][1][1][1].append(RAIN)
        told[0][1].clear()
        self.assertEqual((plan, told[1], readings(plan)[0]),
                         (before, ("then", [("beside", [RAIN, OURS]), ("beside", [OURS])]),
                          ("then", [OURS, ("beside", [OURS])])))
        plain = ("then", [("beside", [OURS])])
        readings(plain)[0][1][0][1].clear()
        self.assertEqual(plain, ("then", [("beside", [OURS])]))

    def test_one_list_at_two_places_of_the_plan(self):
        both = ("beside", [OURS, RAIN])
        plan = ("either", [both, ("then", [both, both]), both])
        told = readings(plan)
        self.assertEqual(told, [both, ("then", [both, both]), both])
        told[0][1].clear()
        self.assertEqual(told[1:], [("then", [("beside", [OURS, RAIN])] * 2), ("beside", [OURS, RAIN])])
        self.assertEqual(both, ("beside", [OURS, RAIN]))

    def test_each_reading_is_a_plan(self):
        rng = random.Random(34)
        for _ in range(200):
            for way in readings(random_good_plan(rng, 5)):
                self.assertTrue(is_plan(way))
                self.assertEqual(readings(way), [way])


if __name__ == "__main__":
    unittest.main()
