"""Points [13] to [16]: rules, least tables, and what settled tells."""

import random
import time
import unittest

from tidewaiter.laying import bases, bounds, heard_spans
from tidewaiter.papers import meaning, paper_fits
from tidewaiter.settle import settled, steered
from tidewaiter.table import Table, table_fits
from tidewaiter.web import Web
from helpers import Case, letters, middling_random_web, small_random_web, state, with_moments
from helpers import with_random_spans, with_random_ties

RULES = ("late", "along", "wait", "sure", "soon", "ahead")


def made_by(rule, heard, betweens, untils):
    """All that one rule of point [13] makes: pairs of a key in betweens or untils and an amount."""
    for x, y in list(betweens) if rule == "along" else ():
        for z in {pair[1] for pair in betweens if pair[0] == y}:
            yield betweens, (x, z), betweens[x, y] + betweens[y, z]
    for x, y in list(betweens) if rule == "wait" else ():
        for k in [k for k in heard if (k, y) in untils]:
            yield untils, (k, x), betweens[x, y] + untils[k, y]
    for k, (b, l, u) in heard.items():
        if rule == "late":
            yield untils, (k, k), -u
        for end, x in list(untils) if rule == "sure" else ():
            if end == k:
                yield betweens, (x, b), max(untils[k, x], -l)
        for e, y in list(betweens) if rule == "soon" else ():
            if e == k and betweens[e, y] < 0:
                yield betweens, (b, y), l + betweens[e, y]
        for j, e in list(untils) if rule == "ahead" else ():
            if e == k and j != k and untils[j, e] < 0:
                yield untils, (j, b), l + untils[j, e]


def least_by_rounds(web, rules=RULES):
    """The two dicts of the least table by going round the rules, None where a base comes behind itself."""
    heard = {end: (begin, low, high) for end, begin, low, high in heard_spans(web)}
    betweens, untils = {(x, x): 0 for x in bases(web)}, {}
    made = [(betweens, (x, y), amount) for x, y, amount in bounds(web)]
    while made:
        for table, key, amount in made:
            table[key] = min(amount, table.get(key, amount))
        if min(betweens[x, x] for x in bases(web)) < 0:
            return None
        made = [row for rule in rules for row in made_by(rule, heard, betweens, untils)
                if row[1] not in row[0] or row[0][row[1]] > row[2]]
    return betweens, untils


def grid(names, ends, rows):
    """Two dicts from rows of amounts, a row for each base and then for each span."""
    rows = [[int(word) for word in row.split()] for row in rows]
    keys = [[(x, y) for y in names] for x in [*names, *ends]]
    pairs = [list(zip(keys, row)) for keys, row in zip(keys, rows)]
    return dict(sum(pairs[:len(names)], [])), dict(sum(pairs[len(names):], []))


def web_with(by, moments, spans, ties):
    web = with_moments(moments, by)
    for end, begin, low, high, late in spans:
        web = web.with_span(end, begin, low, high, late=late)
    for one, other, least, most in ties:
        web = web.with_tie(one, other, least=least, most=most)
    return web


# Each is a web and its least table: a row for each base, with the bounds to all bases, then a row for each heard
# span, with its waits.
WRITTEN = {
    "bare": (web_with(7, "", [], []), ["0"]),
    "moments alone": (web_with(9, "ab", [], []), ["0 9 9", "0 0 9", "0 9 0"]),
    "heard at once": (web_with(10, "", [("e", "start", 2, 4, 0)], []), ["0 4", "-2 0", "0 -4"]),
    "one length": (web_with(10, "", [("e", "start", 3, 3, 0)], []), ["0 3", "-3 0", "0 -3"]),
    "heard late": (web_with(10, "a", [("e", "a", 2, 4, 1)], [("start", "a", 1, 6)]),
                   ["0 6 11", "-1 0 5", "-4 -3 0", "6 0 -5"]),
    "never heard": (web_with(20, "ab", [("e", "a", 1, 3, None)], [("e", "b", 0, 5)]),
                    ["0 17 20", "0 0 6", "-3 -3 0"]),
    "waiting": (web_with(10, "a", [("e", "start", 2, 6, 0)], [("a", "e", None, 1)]),
                ["0 10 6", "-2 0 1", "-2 8 0", "0 -5 -6"]),
    "soon": (web_with(10, "a", [("e", "start", 2, 6, 0)], [("a", "e", 1, None)]),
             ["0 1 6", "0 0 6", "-2 -1 0", "0 0 -6"]),
    "answered at once": (web_with(20, "a", [("e", "start", 2, 6, 0)], [("e", "a", 0, 0)]),
                         ["0 6 6", "-2 0 0", "-2 0 0", "0 -6 -6"]),
    "end ahead of end": (web_with(20, "a", [("e", "start", 2, 9, 0), ("f", "a", 3, 4, 0)], [("f", "e", None, 4)]),
                         ["0 20 9 24", "-2 0 7 4", "-2 18 0 22", "-5 -3 4 0", "0 -2 -9 -5", "20 0 18 -4"]),
    "late end and start": (web_with(9, "a", [("e", "a", 1, 2, 3)], [("start", "e", None, 8)]),
                           ["0 6 11", "0 0 5", "-4 -4 0", "6 0 -5"]),
    "never heard and late": (web_with(30, "a", [("e", "a", 2, 5, None), ("f", "start", 1, 4, 2)], [("f", "e", 3, 15)]),
                             ["0 14 6", "-3 0 1", "-3 8 0", "0 -5 -6"]),
}


class LeastTables(Case):
    def test_written_tables(self):
        for name, (web, rows) in WRITTEN.items():
            ends = [span[0] for span in heard_spans(web)]
            betweens, untils = grid(bases(web), ends, rows)
            answer, table = settled(web)
            self.assertEqual((answer, table.betweens(), table.untils()), ("yes", betweens, untils), name)
            self.assertTrue(table == Table(betweens, untils))

    def test_kinds(self):
        for web, kind in ((Web(), Table), (Web().with_span("e", "start", 1, 2, late=None), Table),
                          (with_moments("a").with_tie("start", "a", most=-1), tuple)):
            pair = settled(web)
            self.assertIs(type(pair), tuple)
            self.assertEqual(len(pair), 2)
            self.assertEqual(pair[0], "yes" if kind is Table else "no")
            self.assertIs(type(pair[1]), kind)
            self.assertIs(steered(web), kind is Table)

    def test_paper_kinds(self):
        rows, ring = settled(with_moments("a").with_tie("start", "a", most=-1))[1]
        self.assertIs(type(rows), list)
        self.assertIs(type(ring), list)
        self.assertTrue(rows and ring and all(type(row) is tuple for row in rows))

    def test_told_anew_and_web_as_it_was(self):
        for web in (WRITTEN["waiting"][0], with_moments("a").with_tie("start", "a", most=-1)):
            before, first = state(web), settled(web)
            again = settled(web)
            if first[0] == "yes":
                first[1].betweens().clear()
                first[1].untils().clear()
            else:
                first[1][0].clear()
                first[1][1].clear()
            self.assertEqual(settled(web), again)
            self.assertEqual(state(web), before)

    def test_any_two_kinds_of_points(self):
        web = web_with(12, "ab", [("e", "start", 1, 3, 0), ("f", "a", 2, 4, 2), ("g", "b", 1, 2, None)], [])
        for one in web.points():
            for other in [point for point in web.points() if point != one]:
                for least, most in ((None, 3), (-2, None), (0, 9), (-9, -1), (2, 2)):
                    self.check_second_way(web.with_tie(one, other, least=least, most=most))

    def check_second_way(self, web):
        answer, proof = settled(web)
        least = least_by_rounds(web)
        if least is None:
            self.assertEqual(answer, "no", (web.spans(), web.ties()))
            self.assertTrue(paper_fits(web, proof))
            self.assertFalse(steered(web))
        else:
            self.assertEqual(answer, "yes", (web.spans(), web.ties()))
            self.assertEqual((proof.betweens(), proof.untils()), least, (web.spans(), web.ties()))
            self.assertTrue(table_fits(web, proof))
            self.assertTrue(steered(web))
        return answer

    def test_second_way_on_many_webs(self):
        rng = random.Random(13)
        answers = [self.check_second_way(small_random_web(rng)) for _ in range(700)]
        answers += [self.check_second_way(middling_random_web(rng)) for _ in range(500)]
        self.assertGreater(answers.count("yes"), 300)
        self.assertGreater(answers.count("no"), 300)


class RuleByRule(Case):
    """For each rule a web whose least table would be another one without it."""

    WEBS = {
        "late": WRITTEN["heard at once"][0], "along": WRITTEN["moments alone"][0], "wait": WRITTEN["waiting"][0],
        "sure": WRITTEN["waiting"][0], "soon": WRITTEN["soon"][0], "ahead": WRITTEN["end ahead of end"][0]}

    def test_each_is_needed(self):
        for rule, web in self.WEBS.items():
            self.assertNotEqual(least_by_rounds(web, [word for word in RULES if word != rule]), least_by_rounds(web))
            table = settled(web)[1]
            self.assertEqual((table.betweens(), table.untils()), least_by_rounds(web), rule)

    def test_each_can_make_a_no(self):
        webs = {
            "along": web_with(9, "ab", [], [("a", "b", 1, None), ("b", "a", 1, None)]),
            "late": web_with(9, "a", [("e", "start", 2, 6, 0)], [("a", "e", 1, 2)]),
            "wait": web_with(9, "a", [("e", "start", 2, 6, 0)], [("a", "e", 1, 2)]),
            "sure": web_with(9, "a", [("e", "start", 2, 6, 0)], [("a", "e", 1, 2)]),
            "soon": web_with(9, "a", [("e", "start", 2, 6, 0)], [("a", "e", 1, 2)]),
            "ahead": web_with(9, "a", [("e", "start", 3, 9, 0), ("f", "a", 2, 5, 0)],
                              [("f", "e", None, 5), ("start", "a", None, 1)])}
        for rule, web in webs.items():
            self.assertIsNone(least_by_rounds(web))
            self.assertIsNotNone(least_by_rounds(web, [word for word in RULES if word != rule]), rule)
            answer, paper = settled(web)
            self.assertEqual(answer, "no")
            self.assertTrue(paper_fits(web, paper))
            self.assertIn(rule, [row[0] for row in paper[0]])

    def test_sure_is_no_surer_than_the_lesser_length(self):
        # Waiting 5 ticks for e ends behind 2 ticks where e is heard by then.
        table = settled(WRITTEN["waiting"][0])[1]
        self.assertEqual((table.until("e", "a"), table.between("a", "start")), (-5, -2))
        # Where the wait is the shorter one it is the sure one.
        table = settled(web_with(10, "a", [("e", "start", 2, 6, 0)], [("a", "e", None, 5)]))[1]
        self.assertEqual((table.until("e", "a"), table.between("a", "start")), (-1, -1))

    def test_soon_needs_a_bound_below_nought(self):
        for least, told in ((-1, 7), (0, 6), (1, 1), (2, 0)):
            table = settled(web_with(10, "a", [("e", "start", 2, 6, 0)], [("a", "e", least, None)]))[1]
            self.assertEqual(table.between("start", "a"), told)

    def test_ahead_needs_a_wait_below_nought(self):
        for most, told in ((4, -2), (8, 2), (9, 4), (10, 5)):
            web = web_with(20, "ab", [("e", "b", 2, 9, 0), ("f", "a", 3, 4, 0)], [("f", "e", None, most)])
            self.assertEqual(settled(web)[1].until("e", "a"), told)

    def test_ahead_is_of_another_span(self):
        # The wait of e for itself is below nought in any web with a heard span; made ahead it would be a no.
        self.assertTrue(steered(web_with(10, "a", [("e", "a", 2, 6, 0)], [])))


class EverLess(Case):
    def check_no(self, web):
        answer, paper = settled(web)
        self.assertEqual(answer, "no")
        self.assertTrue(paper_fits(web, paper))
        self.assertFalse(steered(web))

    def told_ring(self, web):
        return least_by_rounds(web, ["along"]) is None

    def test_rings_in_the_told_bounds(self):
        for ties in ([("a", "b", 1, None), ("b", "a", 1, None)],
                     [("a", "b", 1000, None), ("b", "a", -999, None)],
                     [("start", "a", None, -1)], [("start", "a", 1000, None)],
                     [("a", "b", 1, None), ("b", "c", 1, None), ("c", "a", -1, None)]):
            web = web_with(100, "abc", [], ties)
            self.assertTrue(self.told_ring(web))
            self.check_no(web)

    def test_one_bound_is_a_ring(self):
        web = web_with(9, "a", [("e", "a", 1, 3, None)], [("a", "e", 2, 3)])
        self.assertEqual(settled(web), ("no", ([("told", "a", "a", -1)], [0])))
        web = web_with(9, "", [("e", "start", 1, 3, None)], [("start", "e", None, 2)])
        self.assertEqual(settled(web), ("no", ([("told", "start", "start", -1)], [0])))

    def test_no_ring_in_the_told_bounds(self):
        webs = [web_with(20, "a", [("e", "start", 2, 6, late)], [("e", "a", 0, 0)]) for late in (1, 2, 100)]
        webs.append(web_with(20, "a", [("e", "start", 2, 6, 0)], [("a", "e", 1, 2)]))
        webs.append(web_with(20, "a", [("e", "start", 2, 6, 0)], [("a", "e", 3, 3)]))
        webs.append(web_with(50, "ab", [("e", "a", 1, 9, 0), ("f", "b", 1, 9, 0)], [("e", "f", 0, 3)]))
        webs.append(web_with(50, "ab", [("e", "a", 2, 9, 0), ("f", "b", 2, 9, 0)], [("e", "b", -1, -1)]))
        for web in webs:
            self.assertFalse(self.told_ring(web))
            self.check_no(web)

    def test_one_tick_between_yes_and_no(self):
        for most, answer in ((4, "yes"), (3, "no")):
            self.assertEqual(settled(web_with(20, "a", [("e", "start", 2, 6, None)], [("e", "a", 0, most)]))[0], answer)
        for late, answer in ((3, "yes"), (4, "no")):
            self.assertEqual(settled(web_with(20, "a", [("e", "start", 2, 6, late)], [("e", "a", 0, 3)]))[0], answer)


class LargeWebs(Case):
    def large_webs(self, rng, count):
        """Ten moments, four spans, forty ties: half of them grown tie by tie as long as they are steered."""
        for at in range(count):
            web = with_moments(letters(4), rng.choice([1000, rng.randint(300, 1000)]))
            for name in ("i", "j", "k", "l", "m", "n"):
                web = web.with_moment(name)
            web = with_random_spans(rng, web, 4, rng.choice([20, 200, 1000]), (0, 0, 0, 5, 90, 1000, None))
            if at & 1:
                yield with_random_ties(rng, web, 40, 1000)
                continue
            for _ in range(400):
                one, other = rng.sample(web.points(), 2)
                tied = web.with_tie(one, other, least=rng.randint(-1000, 900), most=1000)
                if len(web.ties()) < 39 and steered(tied):
                    web = tied
            yield with_random_ties(rng, web, 40 - len(web.ties()), 1000)

    def test_answers_in_good_time(self):
        rng = random.Random(40)
        answers = []
        for web in self.large_webs(rng, 12):
            self.assertEqual((len(web.moments()), len(web.spans()), len(web.ties())), (10, 4, 40))
            begun = time.monotonic()
            answer, proof = settled(web)
            fits = table_fits(web, proof) if answer == "yes" else paper_fits(web, proof)
            self.assertLess(time.monotonic() - begun, 5)
            self.assertTrue(fits)
            answers.append(answer)
            if answer == "yes":
                self.assertEqual((proof.betweens(), proof.untils()), least_by_rounds(web))
        self.assertEqual(set(answers), {"yes", "no"})

    def test_a_no_far_from_any_told_ring(self):
        # A chain of ends, each begun by a moment that answers the one ahead: the last one is one tick too late.
        web = with_moments(letters(10), 1000)
        for at, begin in enumerate("adgj"):
            web = web.with_span("wxyz"[at], begin, 1, 200)
        for one, other in (("w", "b"), ("x", "e"), ("y", "h"), ("b", "c"), ("c", "d"), ("e", "f"), ("f", "g"),
                           ("h", "i"), ("i", "j"), ("start", "a")):
            web = web.with_tie(one, other, least=0, most=0)
        self.assertEqual(settled(web.with_tie("start", "z", most=800))[0], "yes")
        tight = web.with_tie("start", "z", most=799)
        answer, paper = settled(tight)
        self.assertEqual(answer, "no")
        self.assertTrue(paper_fits(tight, paper))
        self.assertLess(meaning(tight, paper[0])[paper[1][0]][3], 0)


if __name__ == "__main__":
    unittest.main()
