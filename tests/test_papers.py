"""Points [19] and [20]: made rows, what they mean, and papers of a no."""

import copy
import itertools
import random
import unittest
from unittest import mock

from tidewaiter.errors import BadPaper
from tidewaiter.laying import bounds, heard_spans
from tidewaiter.papers import meaning, paper_fits
from tidewaiter.settle import settled, steered
from tidewaiter.web import Web
from helpers import HUGE, NO_NAMES, TRUTHS, Case, settled_webs, small_random_web, state, with_moments

NO_PLACES = (*TRUTHS, None, "0", "a", "", 0.0, 1.0, (0,), [0], {}, mock.ANY, -1, -2, HUGE, -HUGE)


def small_web():
    """e is heard 2 to 6 ticks behind start, f 3 to 6 ticks behind a, g never."""
    web = with_moments("ab", 20).with_span("e", "start", 2, 6).with_span("f", "a", 1, 4, late=2)
    web = web.with_span("g", "b", 1, 3, late=None).with_tie("a", "e", most=1).with_tie("a", "e", least=3)
    return web.with_tie("f", "e", most=-2)


# Bounds and waits to make others of, by their places.
ROWS = [("told", "a", "e", 1), ("told", "e", "a", -3), ("told", "start", "e", 6), ("told", "e", "start", -2),
        ("late", "e"), ("late", "f"), ("told", "f", "e", -4), ("told", "f", "a", -3), ("told", "a", "f", 6),
        ("wait", 6, 4), ("along", 8, 7)]
MADE = [("most", "a", "e", 1), ("most", "e", "a", -3), ("most", "start", "e", 6), ("most", "e", "start", -2),
        ("until", "e", "e", -6), ("until", "f", "f", -6), ("most", "f", "e", -4), ("most", "f", "a", -3),
        ("most", "a", "f", 6), ("until", "e", "f", -10), ("most", "a", "a", 3)]


class Meaning(Case):
    def test_no_rows(self):
        self.assertEqual(meaning(small_web(), []), [])
        self.assertEqual(meaning(web=Web(), rows=[]), [])

    def test_rows_to_begin_with(self):
        self.assertEqual(meaning(small_web(), ROWS), MADE)

    def check_row(self, row, fact):
        self.assertEqual(meaning(small_web(), [*ROWS, row]), [*MADE, fact])

    def test_each_told_bound(self):
        web = small_web()
        rows = [("told", *bound) for bound in bounds(web)]
        self.assertEqual(meaning(web, rows), [("most", *bound) for bound in bounds(web)])

    def test_along(self):
        self.check_row(("along", 0, 1), ("most", "a", "a", -2))
        self.check_row(("along", 1, 0), ("most", "e", "e", -2))
        self.check_row(("along", 3, 2), ("most", "e", "e", 4))
        self.check_row(("along", 10, 10), ("most", "a", "a", 6))

    def test_wait(self):
        self.check_row(("wait", 0, 4), ("until", "e", "a", -5))
        self.check_row(("wait", 8, 5), ("until", "f", "a", 0))
        self.check_row(("wait", 8, 9), ("until", "e", "a", -4))

    def test_sure(self):
        self.check_row(("sure", 4), ("most", "e", "start", -2))
        self.check_row(("sure", 5), ("most", "f", "a", -3))
        self.check_row(("sure", 9), ("most", "f", "start", -2))
        rows = [*ROWS, ("wait", 0, 4), ("along", 3, 2), ("along", 12, 1), ("along", 0, 13), ("wait", 14, 11)]
        self.assertEqual(meaning(small_web(), rows)[-1], ("until", "e", "a", -3))
        self.assertEqual(meaning(small_web(), [*rows, ("sure", 15)])[-1], ("most", "a", "start", -2))
        # A wait above the lesser length is as sure as it is.
        web = with_moments("a", 20).with_span("e", "start", 2, 6).with_tie("a", "e", most=5)
        self.assertEqual(meaning(web, [("told", "a", "e", 5), ("late", "e"), ("wait", 0, 1), ("sure", 2)])[-1],
                         ("most", "a", "start", -1))

    def test_soon(self):
        self.check_row(("soon", 1), ("most", "start", "a", -1))
        self.check_row(("soon", 3), ("most", "start", "start", 0))
        self.check_row(("soon", 6), ("most", "a", "e", -1))
        self.check_row(("soon", 7), ("most", "a", "a", 0))

    def test_ahead(self):
        self.check_row(("ahead", 9), ("until", "e", "a", -7))

    def test_told_list_is_made_anew_and_the_handed_one_stays(self):
        web = small_web()
        rows, before = copy.deepcopy(ROWS), state(web)
        told = meaning(web, rows)
        self.assertIs(type(told), list)
        self.assertTrue(all(type(row) is tuple for row in told))
        told.clear()
        self.assertEqual((rows, meaning(web, rows), state(web)), (ROWS, MADE, before))
        with self.assertRaises(BadPaper):
            meaning(web, [*rows, ("along", 0, 0)])
        self.assertEqual((rows, state(web)), (ROWS, before))

    def check_wrong(self, row):
        """The row is refused behind the good ones, and behind one more, and alone: always with its own place."""
        self.check_refused(BadPaper, {"row": 11}, meaning, small_web(), [*ROWS, row])
        self.check_refused(BadPaper, {"row": 11}, meaning, small_web(), [*ROWS, row, ROWS[0], row])
        self.check_refused(BadPaper, {"row": 12}, meaning, small_web(), [*ROWS, ROWS[0], row, ("none",)])
        self.check_refused(BadPaper, {"row": 0}, meaning, small_web(), [row, *ROWS])

    def test_other_words(self):
        for word in ("", "tell", "Told", "told ", "most", "until", "bound", "alongs", None, 0, *TRUTHS, b"late",
                     ["late"], mock.ANY, ("late",)):
            for things in ((), (0,), (0, 1), ("e",), ("a", "e", 1)):
                self.check_wrong((word, *things))

    def test_no_tuples_of_things(self):
        for row in ((), [], ["late", "e"], ["told", "a", "e", 1], "late", "", None, 0, 4, True, {}, {"late": "e"},
                    mock.ANY):
            self.check_wrong(row)

    def test_more_or_fewer_things(self):
        for row in (("told", "a", "e", 1), ("late", "e"), ("along", 0, 1), ("wait", 0, 4), ("sure", 4), ("soon", 1),
                    ("ahead", 9)):
            meaning(small_web(), [*ROWS, row])
            for count in range(len(row)):
                self.check_wrong(row[:count])
            for more in (0, 1, 4, None, "e", 0.5, ()):
                self.check_wrong((*row, more))

    def test_unknown_bounds(self):
        for row in (("told", "a", "e", 2), ("told", "a", "e", 0), ("told", "a", "e", -1), ("told", "e", "a", 1),
                    ("told", "a", "b", 1), ("told", "a", "a", 0), ("told", "start", "g", 3), ("told", "z", "e", 1),
                    ("told", "a", "z", 1), ("told", "e", "e", 0), ("told", "a", "e", HUGE), ("told", "a", "e", -HUGE)):
            self.check_wrong(row)
        for name in NO_NAMES:
            self.check_wrong(("told", name, "e", 1))
            self.check_wrong(("told", "a", name, 1))

    def test_amounts_are_whole_numbers(self):
        # (a, e, 1) and (b, start, 0) are told.
        meaning(small_web(), [("told", "a", "e", 1), ("told", "b", "start", 0)])
        for amount in (True, 1.0, "1", None, (1,), [1], mock.ANY):
            self.check_wrong(("told", "a", "e", amount))
        for amount in (False, 0.0, "0", None):
            self.check_wrong(("told", "b", "start", amount))

    def test_late_has_a_heard_span(self):
        for name in ("a", "b", "g", "start", "z", "ee", 0, 4, *NO_NAMES):
            self.check_wrong(("late", name))

    def test_places(self):
        for place in NO_PLACES:
            self.check_wrong(("sure", place))
            self.check_wrong(("soon", place))
            self.check_wrong(("ahead", place))
            for row in (("along", 0, place), ("along", place, 1), ("wait", 0, place), ("wait", place, 4),
                        ("along", place, place)):
                self.check_wrong(row)

    def test_truths_are_no_places_where_the_numbers_would_fit(self):
        rows = [("late", "e"), ("late", "e")]
        for place in TRUTHS:
            self.check_refused(BadPaper, {"row": 2}, meaning, small_web(), [*rows, ("sure", place)])
        rows = [("told", "a", "e", 1), ("told", "e", "a", -3)]
        self.assertEqual(len(meaning(small_web(), [*rows, ("along", 0, 1)])), 3)
        for row in (("along", False, 1), ("along", 0, True), ("along", False, True)):
            self.check_refused(BadPaper, {"row": 2}, meaning, small_web(), [*rows, row])

    def test_places_ahead_alone(self):
        for row in (("sure", 11), ("sure", 12), ("along", 0, 11), ("along", 11, 1), ("along", 11, 11),
                    ("wait", 0, 11), ("soon", 11), ("ahead", 11), ("ahead", 99)):
            self.check_refused(BadPaper, {"row": 11}, meaning, small_web(), [*ROWS, row, *ROWS])

    def test_rows_that_do_not_fit_the_rule(self):
        for row in (("along", 0, 0), ("along", 0, 2), ("along", 1, 3), ("along", 4, 3), ("along", 0, 4),
                    ("along", 4, 5), ("along", 9, 7),
                    ("wait", 1, 4), ("wait", 0, 5), ("wait", 4, 0), ("wait", 0, 1), ("wait", 4, 4), ("wait", 0, 9),
                    ("sure", 0), ("sure", 3), ("sure", 6), ("sure", 10),
                    ("soon", 0), ("soon", 2), ("soon", 8), ("soon", 4), ("soon", 9), ("soon", 10),
                    ("ahead", 0), ("ahead", 4), ("ahead", 5), ("ahead", 6), ("ahead", 3)):
            self.check_wrong(row)

    def test_soon_needs_less_than_nought(self):
        web = with_moments("a", 20).with_span("e", "start", 2, 6)
        for least, fine in ((1, True), (0, False), (-1, False)):
            rows = [("told", "e", "a", -least), ("soon", 0)]
            tied = web.with_tie("a", "e", least=least)
            if fine:
                self.assertEqual(meaning(tied, rows)[-1], ("most", "start", "a", 1))
            else:
                self.check_refused(BadPaper, {"row": 1}, meaning, tied, rows)

    def test_ahead_needs_less_than_nought(self):
        web = with_moments("a", 20).with_span("e", "start", 2, 6).with_span("f", "a", 1, 4, late=2)
        for most, fine in ((5, True), (6, False), (7, False)):
            rows = [("late", "e"), ("told", "f", "e", most), ("wait", 1, 0), ("ahead", 2)]
            tied = web.with_tie("f", "e", most=most + 2)
            if fine:
                self.assertEqual(meaning(tied, rows)[-1], ("until", "e", "a", 2))
            else:
                self.check_refused(BadPaper, {"row": 3}, meaning, tied, rows)

    def test_ahead_needs_an_end_of_another_span(self):
        # A wait of a, which is no end, and of e for e itself.
        rows = [*ROWS, ("wait", 0, 4)]
        self.check_refused(BadPaper, {"row": 12}, meaning, small_web(), [*rows, ("ahead", 11)])
        self.check_refused(BadPaper, {"row": 12}, meaning, small_web(), [*rows, ("ahead", 4)])

    def test_the_first_wrong_row_is_told(self):
        rng = random.Random(19)
        wrong = [(), ("late", "g"), ("sure", 0), ("along", 0, 0), None, ("told", "a", "e", True), ("soon", 99)]
        for _ in range(200):
            rows = list(ROWS)
            places = sorted(rng.sample(range(len(rows)), rng.randint(1, 4)))
            for place in places:
                rows[place] = rng.choice(wrong)
            self.check_refused(BadPaper, {"row": places[0]}, meaning, small_web(), rows)

    def test_very_great_amounts(self):
        rows = [("told", "start", "a", 20), ("told", "a", "start", 0), ("along", 0, 1)]
        rows += [("along", at, at) for at in range(2, 20_002)]
        told = meaning(with_moments("a", 20), rows)[-1]
        self.assertEqual(told[:3], ("most", "start", "start"))
        self.assertTrue(told[3] == 20 * 2 ** 20_000)


def ring_by_the_words(web, rows, ring):
    """Point [20]: whether good rows and a list of whole numbers are a paper."""
    begins = {span[0]: span[1] for span in heard_spans(web)}
    facts = meaning(web, rows)
    if not ring or any(not 0 <= place < len(facts) for place in ring):
        return False
    told = [facts[place] for place in ring]
    arrows = [(fact[1], fact[2]) if fact[0] == "most" else (fact[2], begins[fact[1]]) for fact in told]
    return (all(fact[3] < 0 for fact in told)
            and all(one[1] == other[0] for one, other in zip(arrows, arrows[1:] + arrows[:1])))


class Fitting(Case):
    def test_each_told_paper_fits(self):
        for web, paper in settled_webs(random.Random(20), 400, "no"):
            before, kept = state(web), copy.deepcopy(paper)
            self.assertIs(paper_fits(web, paper), True)
            self.assertEqual((state(web), paper), (before, kept))
            self.assertTrue(ring_by_the_words(web, *paper))

    def test_by_name(self):
        web = with_moments("a", 9).with_tie("start", "a", most=-1)
        self.assertIs(paper_fits(web=web, paper=settled(web)[1]), True)

    def test_rings_by_the_words(self):
        web = small_web()
        rows = [*ROWS, ("wait", 0, 4), ("along", 0, 1), ("soon", 6), ("along", 1, 0)]
        for count in (0, 1, 2, 3):
            for ring in itertools.product(range(len(rows)), repeat=count):
                self.assertIs(paper_fits(web, (rows, list(ring))), ring_by_the_words(web, rows, ring), ring)

    def test_rings_of_several_rows(self):
        web = with_moments("abc", 20).with_span("e", "b", 2, 6).with_tie("a", "e", most=3)
        for one, other in (("c", "b"), ("a", "c"), ("b", "a")):
            web = web.with_tie(one, other, least=1)
        rows = [("late", "e"), ("told", "a", "e", 3), ("wait", 1, 0),
                ("told", "b", "c", -1), ("told", "c", "a", -1), ("told", "a", "b", -1)]
        self.assertEqual(meaning(web, rows)[2], ("until", "e", "a", -3))
        good = ([2, 3, 4], [3, 4, 2], [4, 2, 3], [5, 3, 4], [2, 3, 4, 5, 3, 4], [2, 3, 4, 2, 3, 4])
        for ring in good:
            self.assertIs(paper_fits(web, (rows, ring)), True, ring)
        for ring in ([], [2], [2, 3], [4, 3, 2], [2, 4, 3], [3, 4], [2, 3, 4, 5], [1, 3, 4], [0, 3, 4], [2, 2, 3, 4]):
            self.assertIs(paper_fits(web, (rows, ring)), False, ring)

    def test_a_wait_points_to_its_begin(self):
        web = with_moments("a", 20).with_span("e", "a", 2, 6).with_tie("a", "e", most=3)
        rows = [("late", "e"), ("told", "a", "e", 3), ("wait", 1, 0)]
        self.assertIs(paper_fits(web, (rows, [2])), True)
        self.assertIs(paper_fits(web, (rows, [0])), False)

    def test_rows_not_below_nought(self):
        web = with_moments("a", 9).with_tie("a", "start", least=0)
        rows = [("told", "start", "a", 0), ("told", "a", "start", 0), ("along", 0, 1)]
        self.assertEqual(meaning(web, rows)[2], ("most", "start", "start", 0))
        for ring in ([0, 1], [2], [1, 0], [2, 2]):
            self.assertIs(paper_fits(web, (rows, ring)), False)

    def test_truths_and_places_beyond(self):
        web = with_moments("a", 9).with_tie("start", "a", most=-1).with_tie("start", "a", least=1)
        rows = [("told", "start", "a", -1), ("told", "a", "start", -1)]
        self.assertIs(paper_fits(web, (rows, [0, 1])), True)
        for place in (*NO_PLACES, 2, 3):
            self.assertIs(paper_fits(web, (rows, [place])), False)
            self.assertIs(paper_fits(web, (rows, [place, 1])), False)
            self.assertIs(paper_fits(web, (rows, [0, place])), False)
        # Counted from the end they would point round.
        self.assertIs(paper_fits(web, (rows, [-2, -1])), False)
        self.assertIs(paper_fits(web, (rows, [False, True])), False)

    def test_rows_that_meaning_refuses(self):
        web = with_moments("a", 9).with_tie("start", "a", most=-1)
        rows, ring = settled(web)[1]
        self.assertIs(paper_fits(web, (rows, ring)), True)
        for wrong in ((), ("late", "e"), None, ("along", 0, True), ("sure", 0), ("told", "a", "a", -1)):
            self.assertIs(paper_fits(web, ([*rows, wrong], ring)), False)
            self.assertIs(paper_fits(web, ([wrong, *rows], [place + 1 for place in ring])), False)

    def test_what_is_no_pair_of_lists(self):
        web = with_moments("a", 9).with_tie("start", "a", most=-1)
        rows, ring = settled(web)[1]
        for paper in ((), (rows,), (rows, ring, ring), [rows, ring], (tuple(rows), ring), (rows, tuple(ring)),
                      (rows, None), (None, ring), None, (rows, 0), (rows, {0: 0})):
            self.assertIs(paper_fits(web, paper), False)

    def test_no_paper_is_empty(self):
        for web in (Web(), small_web(), with_moments("a", 9).with_tie("start", "a", most=-1)):
            self.assertIs(paper_fits(web, ([], [])), False)
            self.assertIs(paper_fits(web, ([], [0])), False)

    def test_a_paper_of_another_web(self):
        rng = random.Random(202)
        fitting = 0
        papers = [paper for web, paper in settled_webs(rng, 120, "no")]
        webs = [small_random_web(rng) for _ in range(60)] + [web for web, paper in settled_webs(rng, 60, "no")]
        for web in webs:
            for paper in papers:
                if paper_fits(web, paper):
                    fitting += 1
                    self.assertFalse(steered(web))
        self.assertGreater(fitting, 20)

    def test_no_paper_against_a_yes(self):
        """Whatever rows are made at random of a steered web, none of them points round."""
        rng = random.Random(203)
        webs = [web for web in (small_random_web(rng) for _ in range(120)) if steered(web)]
        for web in webs:
            rows = [("told", *bound) for bound in bounds(web)] + [("late", span[0]) for span in heard_spans(web)]
            for _ in range(150):
                word = rng.choice(["along", "along", "wait", "wait", "sure", "soon", "ahead"])
                places = [rng.randrange(len(rows)) for _ in range(2 if word in ("along", "wait") else 1)]
                try:
                    meaning(web, [*rows, (word, *places)])
                except BadPaper:
                    continue
                rows.append((word, *places))
            for place in range(len(rows)):
                self.assertIs(paper_fits(web, (rows, [place])), False)


if __name__ == "__main__":
    unittest.main()
