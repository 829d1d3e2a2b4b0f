"""Points [17] and [18]: tables, and whether they are papers of a yes."""

import random
import unittest
from unittest import mock

from tidewaiter.errors import NoPoint, NoSpan
from tidewaiter.laying import bases, bounds, heard_spans
from tidewaiter.settle import settled
from tidewaiter.table import Table, table_fits
from tidewaiter.web import Web
from helpers import HUGE, NO_NAMES, Case, middling_random_web, small_random_web, state, with_moments

BETWEENS = {("start", "start"): 0, ("start", "a"): 6, ("start", "e"): 11,
            ("a", "start"): -1, ("a", "a"): 0, ("a", "e"): 5,
            ("e", "start"): -4, ("e", "a"): -3, ("e", "e"): 0}
UNTILS = {("e", "start"): 6, ("e", "a"): 0, ("e", "e"): -5}


def small_table():
    return Table(BETWEENS, UNTILS)


def small_web():
    return with_moments("a", 10).with_span("e", "a", 2, 4, late=1).with_tie("start", "a", least=1, most=6)


class Telling(Case):
    def test_each_place(self):
        table = small_table()
        for x, y in BETWEENS:
            self.assertEqual(table.between(x, y), BETWEENS[x, y])
            self.assertEqual(table.between(x=x, y=y), BETWEENS[x, y])
        for end, x in UNTILS:
            self.assertEqual(table.until(end, x), UNTILS[end, x])
            self.assertEqual(table.until(end=end, x=x), UNTILS[end, x])

    def test_no_point(self):
        table = small_table()
        for name in ("b", "starts", "Start", *NO_NAMES):
            self.check_refused(NoPoint, {"name": name}, table.between, name, "a")
            self.check_refused(NoPoint, {"name": name}, table.between, "a", name)
            self.check_refused(NoPoint, {"name": name}, table.between, name, "zz")
            self.check_refused(NoPoint, {"name": name}, table.until, "e", name)

    def test_no_span_ahead_of_no_point(self):
        table = small_table()
        for name in ("a", "start", "b", *NO_NAMES):
            self.check_refused(NoSpan, {"name": name}, table.until, name, "a")
            self.check_refused(NoSpan, {"name": name}, table.until, name, "b")
            self.check_refused(NoSpan, {"name": name}, table.until, name, None)
            self.check_refused(NoSpan, {"name": name}, table.until, name, name)

    def test_bases_and_spans_are_those_of_the_pairs(self):
        table = Table({("a", "b"): 1}, {("e", "c"): 2})
        self.assertEqual((table.between("a", "b"), table.until("e", "c")), (1, 2))
        # c is a base by the waits alone, e is a span and no base.
        self.check_refused(NoPoint, {"name": "e"}, table.between, "c", "e")
        self.check_refused(NoPoint, {"name": "e"}, table.between, "e", "c")
        self.check_refused(NoPoint, {"name": "e"}, table.until, "e", "e")
        self.check_refused(NoSpan, {"name": "c"}, table.until, "c", "a")
        self.check_refused(NoPoint, {"name": "start"}, table.between, "start", "a")

    def test_an_empty_table(self):
        table = Table({}, {})
        self.assertEqual((len(table), repr(table), table.betweens(), table.untils()),
                         (0, "Table(0 bounds, 0 waits)", {}, {}))
        self.check_refused(NoPoint, {"name": "start"}, table.between, "start", "start")
        self.check_refused(NoSpan, {"name": "e"}, table.until, "e", "start")

    def test_very_great_amounts(self):
        table = Table({("a", "b"): HUGE, ("b", "a"): -HUGE}, {("e", "a"): -HUGE, ("e", "b"): HUGE})
        self.assertTrue(table.between("a", "b") == HUGE and table.between("b", "a") == -HUGE)
        self.assertTrue(table.until("e", "a") == -HUGE and table.until("e", "b") == HUGE)
        self.assertEqual(repr(table), "Table(2 bounds, 2 waits)")
        self.assertFalse(table == Table({("a", "b"): HUGE, ("b", "a"): -HUGE}, {("e", "a"): -HUGE, ("e", "b"): -HUGE}))

    def test_len_and_repr(self):
        self.assertEqual((len(small_table()), repr(small_table())), (12, "Table(9 bounds, 3 waits)"))
        self.assertEqual(repr(Table({("a", "b"): 1}, {})), "Table(1 bounds, 0 waits)")
        self.assertEqual(len(Table({("a", "b"): 1}, {("a", "b"): 1})), 2)

    def test_handed_dicts_stay_and_are_copied(self):
        betweens, untils = dict(BETWEENS), dict(UNTILS)
        table = Table(betweens, untils)
        self.assertEqual((betweens, untils), (BETWEENS, UNTILS))
        betweens["a", "e"] = 99
        betweens["b", "b"] = 0
        untils.clear()
        self.assertEqual(table, small_table())
        self.assertEqual((len(table), table.between("a", "e"), table.until("e", "a")), (12, 5, 0))
        self.check_refused(NoPoint, {"name": "b"}, table.between, "b", "b")

    def test_told_dicts_are_made_anew(self):
        table = small_table()
        for ask, told in ((table.betweens, BETWEENS), (table.untils, UNTILS)):
            self.assertIs(type(ask()), dict)
            self.assertEqual(ask(), told)
            ask().clear()
            ask()["x", "y"] = 1
            self.assertEqual(ask(), told)
        self.assertEqual(table, small_table())

    def test_by_name(self):
        self.assertEqual(Table(untils=UNTILS, betweens=BETWEENS), small_table())


class Equality(Case):
    def test_equal(self):
        one, other = small_table(), Table(dict(reversed(BETWEENS.items())), dict(reversed(UNTILS.items())))
        self.assertTrue(one == other and other == one and one == one)
        self.assertFalse(one != other or other != one)

    def test_one_place_alone(self):
        for pair in BETWEENS:
            self.check_apart(small_table(), Table({**BETWEENS, pair: BETWEENS[pair] + 1}, UNTILS))
            self.check_apart(small_table(), Table({k: BETWEENS[k] for k in BETWEENS if k != pair}, UNTILS))
        for pair in UNTILS:
            self.check_apart(small_table(), Table(BETWEENS, {**UNTILS, pair: UNTILS[pair] - 1}))
            self.check_apart(small_table(), Table(BETWEENS, {k: UNTILS[k] for k in UNTILS if k != pair}))
        self.check_apart(Table({("a", "b"): 1}, {}), Table({}, {("a", "b"): 1}))

    def test_nothing_else_is_equal(self):
        for other in (BETWEENS, (BETWEENS, UNTILS), None, 12, True, "", repr(small_table()), [], {}, Web(), object()):
            self.check_apart(small_table(), other)
        self.check_apart(Table({}, {}), {})
        self.check_apart(Table({}, {}), 0)


def fits_by_the_words(web, table):
    """Point [18], sentence by sentence."""
    names, spans = bases(web), heard_spans(web)
    low, until = table.betweens(), table.untils()
    if sorted(low) != sorted((x, y) for x in names for y in names):
        return False
    if sorted(until) != sorted((span[0], x) for span in spans for x in names):
        return False
    made = [low[x, y] <= amount for x, y, amount in bounds(web)]
    made += [until[e, e] <= -u for e, b, l, u in spans]
    made += [low[x, x] <= 0 for x in names]
    made += [low[x, z] <= low[x, y] + low[y, z] for x in names for y in names for z in names]
    for e, b, l, u in spans:
        made += [until[e, x] <= low[x, y] + until[e, y] for x in names for y in names]
        made += [low[x, b] <= max(until[e, x], -l) for x in names]
        made += [low[b, y] <= l + low[e, y] for y in names if low[e, y] < 0]
        made += [until[j[0], b] <= l + until[j[0], e] for j in spans if j[0] != e and until[j[0], e] < 0]
    return all(made) and not points_round(names, spans, low, until)


def points_round(names, spans, low, until):
    points = {x: {y for y in names if low[x, y] < 0} | {b for e, b, l, u in spans if until[e, x] < 0} for x in names}
    while points:
        free = [x for x in points if not points[x] & set(points)]
        if not free:
            return True
        for x in free:
            del points[x]
    return False


def changed(table, pair, waits, amount):
    """The table with one more or less at one place."""
    betweens, untils = table.betweens(), table.untils()
    held = untils if waits else betweens
    held[pair] += amount
    return Table(betweens, untils)


class Fitting(Case):
    def check_fits(self, web, table, answer):
        before, kept = state(web), Table(table.betweens(), table.untils())
        self.assertIs(table_fits(web, table), answer, (web.spans(), web.ties(), table.betweens(), table.untils()))
        self.assertEqual((state(web), table), (before, kept))

    def test_told_tables_fit(self):
        rng = random.Random(18)
        told = 0
        for _ in range(400):
            web = rng.choice([small_random_web, middling_random_web])(rng)
            answer, table = settled(web)
            if answer == "yes":
                self.check_fits(web, table, True)
                told += 1
        self.assertGreater(told, 100)
        self.check_fits(Web(), Table({("start", "start"): 0}, {}), True)
        self.assertIs(table_fits(web=small_web(), table=small_table()), True)

    def test_one_place_more(self):
        # A told bound or a rule makes each place as little as it is, so that one more is seen anywhere.
        for pair in BETWEENS:
            table = changed(small_table(), pair, False, 1)
            self.check_fits(small_web(), table, False)
        for pair in UNTILS:
            table = changed(small_table(), pair, True, 1)
            self.check_fits(small_web(), table, False)

    def test_one_place_more_or_less_by_the_words(self):
        rng = random.Random(1818)
        answers = []
        for _ in range(250):
            web = rng.choice([small_random_web, middling_random_web])(rng)
            answer, table = settled(web)
            if answer == "no":
                continue
            places = [(pair, False) for pair in table.betweens()] + [(pair, True) for pair in table.untils()]
            for pair, waits in rng.sample(places, min(8, len(places))):
                other = changed(table, pair, waits, rng.choice([-2, -1, 1, 2]))
                answers.append(fits_by_the_words(web, other))
                self.check_fits(web, other, answers[-1])
        self.assertGreater(answers.count(True), 20)
        self.assertGreater(answers.count(False), 200)

    def test_tables_of_another_web(self):
        rng = random.Random(181)
        answers = []
        for _ in range(1500):
            web = small_random_web(rng, 1)
            one, other = web.points()[1], rng.choice(["start", *web.points()[2:]])
            least = rng.randint(-3, 3)
            tied = web.with_tie(one, other, least=least, most=rng.randint(least, 6)).with_by(max(1, web.by - 1))
            if settled(tied)[0] == "no" or settled(web)[0] == "no":
                continue
            # What fits a tighter web fits the looser one, whose own table need not fit the tighter one.
            self.check_fits(web, settled(tied)[1], True)
            answers.append(fits_by_the_words(tied, settled(web)[1]))
            self.check_fits(tied, settled(web)[1], answers[-1])
        self.assertGreater(answers.count(True), 10)
        self.assertGreater(answers.count(False), 10)

    def test_not_the_least_table_alone(self):
        web = with_moments("ab", 9)
        betweens = settled(web)[1].betweens()
        for pair in (("start", "a"), ("start", "b"), ("b", "a"), ("a", "b")):
            betweens[pair] = 8
        self.check_fits(web, Table(betweens, {}), True)
        betweens["a", "start"] = -3
        self.check_fits(web, Table(betweens, {}), False)
        betweens["a", "b"] = 5
        self.check_fits(web, Table(betweens, {}), True)

    def test_a_pair_lacking_or_too_many(self):
        web = small_web()
        for pair in BETWEENS:
            self.check_fits(web, Table({k: BETWEENS[k] for k in BETWEENS if k != pair}, UNTILS), False)
        for pair in UNTILS:
            self.check_fits(web, Table(BETWEENS, {k: UNTILS[k] for k in UNTILS if k != pair}), False)
        for more in (("b", "b"), ("start", "b"), ("b", "start")):
            self.check_fits(web, Table({**BETWEENS, more: 0}, UNTILS), False)
        for more in (("a", "a"), ("f", "start"), ("e", "b")):
            self.check_fits(web, Table(BETWEENS, {**UNTILS, more: 0}), False)
        self.check_fits(web, Table({}, {}), False)
        self.check_fits(web, Table(BETWEENS, {}), False)
        self.check_fits(web, Table({}, UNTILS), False)

    def test_a_pair_renamed(self):
        web = small_web()
        for pair in BETWEENS:
            rest = {k: BETWEENS[k] for k in BETWEENS if k != pair}
            for name in (("b", pair[1]), (pair[0], "b"), ("b", "b")):
                self.check_fits(web, Table({**rest, name: BETWEENS[pair]}, UNTILS), False)
        for pair in UNTILS:
            rest = {k: UNTILS[k] for k in UNTILS if k != pair}
            for name in (("f", pair[1]), (pair[0], "b"), ("a", pair[1])):
                self.check_fits(web, Table(BETWEENS, {**rest, name: UNTILS[pair]}), False)

    def test_spans_never_heard_have_no_places(self):
        web = with_moments("a", 9).with_span("e", "a", 1, 2, late=None)
        table = settled(web)[1]
        self.assertEqual((len(table.betweens()), table.untils()), (4, {}))
        self.check_fits(web, table, True)
        self.check_fits(web, Table(table.betweens(), {("e", "start"): 5, ("e", "a"): 5}), False)

    def test_rests_are_nought_at_most(self):
        for amount, answer in ((0, True), (1, False), (-1, False), (HUGE, False), (-HUGE, False)):
            self.check_fits(Web(), Table({("start", "start"): amount}, {}), answer)

    def test_each_sentence_by_itself(self):
        web = with_moments("a", 10).with_span("e", "start", 2, 6).with_tie("a", "e", most=1)
        answer, table = settled(web)
        self.check_fits(web, table, True)
        # told bound, late, along, wait, sure: each is broken at the place that it is made for.
        for pair, waits in ((("a", "e"), False), (("e", "e"), True), (("e", "a"), False), (("e", "a"), True),
                            (("a", "start"), False)):
            self.check_fits(web, changed(table, pair, waits, 1), False)
        soon = with_moments("a", 10).with_span("e", "start", 2, 6).with_tie("a", "e", least=1)
        self.check_fits(soon, changed(settled(soon)[1], ("start", "a"), False, 1), False)
        ahead = with_moments("a", 20).with_span("e", "start", 2, 9).with_span("f", "a", 3, 4)
        ahead = ahead.with_tie("f", "e", most=4)
        self.check_fits(ahead, changed(settled(ahead)[1], ("e", "a"), True, 1), False)

    def test_no_table_fits_a_no(self):
        web = with_moments("a", 20).with_span("e", "start", 2, 6, late=1).with_tie("e", "a", least=0, most=0)
        self.assertEqual(settled(web)[0], "no")
        rng = random.Random(20)
        for _ in range(200):
            betweens = {(x, y): 0 if x == y else rng.randint(-7, 20) for x in bases(web) for y in bases(web)}
            untils = {("e", x): rng.randint(-9, 9) for x in bases(web)}
            self.check_fits(web, Table(betweens, untils), False)

    def test_names_that_are_equal_to_anything(self):
        self.assertEqual(mock.ANY, "a")
        self.check_refused(NoPoint, {"name": mock.ANY}, small_table().between, mock.ANY, "a")


if __name__ == "__main__":
    unittest.main()
