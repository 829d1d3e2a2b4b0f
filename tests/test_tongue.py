"""Point [35]: how plans are written, and read again."""

import copy
import random
import string
import unittest

from tidewaiter.errors import BadText
from tidewaiter.tongue import read_plan, write_plan
from helpers import Case, is_plan, random_good_plan, random_plan

OURS = ("ours", 2, 5)
RAIN = ("weather", 1, 4, 0)
WRITTEN = [
    (OURS, "ours 2 5"),
    (("ours", 0, 0), "ours 0 0"),
    (("ours", 1000, 1000), "ours 1000 1000"),
    (RAIN, "weather 1 4 0"),
    (("weather", 10, 1000, 1000), "weather 10 1000 1000"),
    (("weather", 3, 3, None), "weather 3 3 -"),
    (("then", [OURS]), "then(ours 2 5)"),
    (("then", [OURS, RAIN]), "then(ours 2 5, weather 1 4 0)"),
    (("beside", [RAIN, OURS]), "beside(weather 1 4 0, ours 2 5)"),
    (("within", 9, OURS), "within 9(ours 2 5)"),
    (("within", 0, ("then", [OURS, OURS])), "within 0(then(ours 2 5, ours 2 5))"),
    (("either", [OURS, RAIN]), "either(ours 2 5, weather 1 4 0)"),
    (("then", [("beside", [OURS, ("either", [RAIN])]), ("within", 12, ("then", [OURS, RAIN, OURS])), RAIN]),
     "then(beside(ours 2 5, either(weather 1 4 0)), within 12(then(ours 2 5, weather 1 4 0, ours 2 5)), "
     "weather 1 4 0)"),
]


class Written(Case):
    def test_each_kind(self):
        for plan, text in WRITTEN:
            before = copy.deepcopy(plan)
            self.assertEqual(write_plan(plan), text)
            self.assertEqual(write_plan(plan=plan), text)
            self.assertEqual(read_plan(text), plan)
            self.assertEqual(read_plan(text=text), plan)
            self.assertEqual(plan, before)

    def test_many_plans_are_read_back(self):
        rng = random.Random(35)
        for _ in range(1500):
            plan = random_good_plan(rng, rng.randint(1, 6))
            told = read_plan(write_plan(plan))
            self.assertEqual(told, plan)
            self.assertEqual(repr(told), repr(plan))

    def test_made_anew(self):
        told = read_plan("then(ours 2 5, beside(ours 2 5))")
        told[1][1][1].clear()
        told[1].pop()
        self.assertEqual(read_plan("then(ours 2 5, beside(ours 2 5))"), ("then", [OURS, ("beside", [OURS])]))


class Refused(Case):
    def check(self, *texts):
        for text in texts:
            self.check_refused(BadText, {"row": 0}, read_plan, text)

    def test_odd_texts(self):
        self.check("", " ", "-", "0", "(", ")", "()", ",", ", ", "ours", "weather", "then", "beside", "within",
                   "either", "a", "\n", "plan(ours 2 5)", "(ours 2 5)", "none 2 5", "ours(2 5)", "ours(2, 5)",
                   "weather(1 4 0)", "OURS 2 5", "Ours 2 5", "our 2 5", "oours 2 5", "then ours 2 5")

    def test_blanks(self):
        for plan, text in WRITTEN:
            self.check(f" {text}", f"{text} ", f"{text}\n", f"\n{text}", text.replace(" ", "  ", 1),
                       text.replace(" ", "\t", 1), text.replace(" ", "\u00a0", 1), text.replace(" ", "\n", 1))
        self.check("then (ours 2 5)", "then( ours 2 5)", "then(ours 2 5 )", "then(ours 2 5) ", "within 9 (ours 2 5)",
                   "within  9(ours 2 5)", "within9(ours 2 5)", "within 9( ours 2 5)", "ours  2 5", "ours 2  5",
                   "ours2 5", "ours 25", "ours 2\n5")

    def test_commas(self):
        self.check("then(ours 2 5,ours 2 5)", "then(ours 2 5,  ours 2 5)", "then(ours 2 5 , ours 2 5)",
                   "then(ours 2 5, )", "then(ours 2 5,)", "then(, ours 2 5)", "then(ours 2 5,, ours 2 5)",
                   "then(ours 2 5, , ours 2 5)", "then(ours 2 5 ours 2 5)", "then(ours 2 5; ours 2 5)", "ours 2, 5",
                   "ours, 2, 5", "ours 2 5, ours 2 5", "ours 2 5,", "then(ours 2 5), ", ", then(ours 2 5)",
                   "within 9, (ours 2 5)", "within 9(ours 2 5, ours 2 5)", "within 9(ours 2 5, )")

    def test_brackets(self):
        self.check("then(ours 2 5", "then ours 2 5)", "then(ours 2 5))", "then((ours 2 5))", "then((ours 2 5)",
                   "then(ours 2 5)(ours 2 5)", "then()", "beside()", "either()", "within 9()", "within 9", "within()",
                   "within(ours 2 5)", "then)ours 2 5(", "then[ours 2 5]", "then{ours 2 5}", "ours 2 5)", "(ours 2 5",
                   "ours 2 5()", "then(ours 2 5)x", "then(ours 2 5)then(ours 2 5)", "then(ours 2 5), (ours 2 5)",
                   "then(then(ours 2 5, ours 2 5)", "then(then(ours 2 5), ours 2 5))", "then(ours 2 5), ours 2 5)",
                   "then(then(ours 2 5, then(ours 2 5)))x", "then(ours 2 5, then(ours 2 5)", "then(ours 2 5)))(((")

    def test_numbers(self):
        for number in ("02", "00", "+2", "-2", "-0", "--2", "2.", "2.0", "2e0", "0x2", "0b1", "2_0", "", "-", "two",
                       "\u0662", "\u00b2", "\uff12", "1_0", "2a", "'2'", "None", "True", "2" * 5000, "0" * 5000):
            self.check(f"ours {number} 1000", f"ours 0 {number}", f"weather {number} 1000 0", f"weather 1 {number} 0",
                       f"within {number}(ours 0 1)")
            if number != "-":
                self.check(f"weather 1 1 {number}")

    def test_more_or_fewer_numbers(self):
        self.check("ours 2", "ours 2 5 7", "weather 1 4", "weather 1 4 0 0", "weather 1", "within 9 9(ours 2 5)",
                   "then 9(ours 2 5)", "beside 1(ours 2 5)", "either 0(ours 2 5)", "ours 2 5 -", "weather 1 4 - -",
                   "within -(ours 2 5)", "ours - 5", "ours 2 -", "weather - 4 0", "weather 1 - 0", "then -(ours 2 5)")

    def test_what_is_written_well_but_is_no_plan(self):
        self.check("ours 5 2", "ours 0 1001", "ours 1001 1001", "weather 0 1 0", "weather 4 1 0", "weather 1 1001 0",
                   "weather 1 4 1001", "within 1001(ours 2 5)", "ours 999999999 999999999")
        self.check(f"then({', '.join(['ours 2 5'] * 5)})", f"either({', '.join(['ours 2 5'] * 5)})")
        four = f"then({', '.join(['ours 2 5'] * 4)})"
        self.assertEqual(len(read_plan(f"then({four}, {four}, {four})")[1]), 3)
        self.check(f"then({four}, {four}, {four}, ours 2 5)")
        three = "either(ours 1 1, ours 2 2, ours 3 3)"
        self.check(f"then({three}, {three}, {three}, {three})")

    def test_depth(self):
        for word in ("then", "within 3", "either", "beside"):
            for depth in (1, 2, 3, 4, 5, 6):
                read_plan(f"{word}(" * (depth - 1) + "ours 2 5" + ")" * (depth - 1))
            for depth in (7, 8, 9, 50, 3000, 50_000):
                self.check(f"{word}(" * (depth - 1) + "ours 2 5" + ")" * (depth - 1))
                self.check(f"{word}(" * (depth - 1))
        self.check("(" * 50_000, ")" * 50_000, ", " * 50_000)

    def test_long_texts(self):
        many = ", ".join(["ours 2 5"] * 20_000)
        self.check(f"then({many})", f"then(then(then({many})))", many)

    def test_plans_that_are_none(self):
        rng = random.Random(36)
        found = 0
        while found < 300:
            plan = random_plan(rng, rng.randint(4, 7), ("then", "beside", "within", "either"), 4)
            if not is_plan(plan):
                found += 1
                self.check(write_plan(plan))

    def test_one_sign_spoilt(self):
        signs = string.ascii_lowercase[:5] + "019 -+,()\n\t\u0661;"
        rng = random.Random(37)
        texts = [text for plan, text in WRITTEN] + [write_plan(random_good_plan(rng, 4)) for _ in range(20)]
        refused = 0
        for text in texts:
            for at in range(len(text) + 1):
                sign = rng.choice(signs)
                for spoilt in (text[:at] + text[at + 1:], text[:at] + sign + text[at:],
                               text[:at] + sign + text[at + 1:], text[:at] + text[at:at + 2][::-1] + text[at + 2:]):
                    refused += self.is_refused(spoilt)
        self.assertGreater(refused, 3000)

    def is_refused(self, text):
        """A text is refused with BadText(0), or is just what is written of the plan that it is read as."""
        try:
            plan = read_plan(text)
        except BadText as refusal:
            self.assertEqual(refusal.row, 0)
            return True
        self.assertTrue(is_plan(plan))
        self.assertEqual(write_plan(plan), text)
        return False


if __name__ == "__main__":
    unittest.main()
