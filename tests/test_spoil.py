"""Points [20] and [29]: lengths with which a keeper breaks a web that isn't steered."""

import copy
import functools
import itertools
import random
import unittest

from tidewaiter.asks import corners
from tidewaiter.errors import BadPaper
from tidewaiter.laying import bounds
from tidewaiter.papers import meaning, paper_fits
from tidewaiter.play import broken, by_table, play, spoil
from tidewaiter.settle import settled, steered
from tidewaiter.web import Web
from helpers import (Case, by_plan, do_nothing, mixer, settled_webs, small_random_web, state, tie_holds,
                     with_moments)


def like_webs(rng, web):
    """Steered webs of the same points, with fewer ties, and with a later last tick."""
    for loose in (web, web.with_by(1000)):
        while loose.ties() and not steered(loose):
            loose = loose.without_tie(rng.randrange(len(loose.ties())))
        if steered(loose):
            yield loose


def other_paper(rng, web, paper):
    """A paper with other rows amid its own, some of them made, and with a longer ring that begins elsewhere."""
    rows, ring = paper
    made, moved = [], {}
    for at, row in enumerate(rows):
        for _ in range(rng.randint(0, 2)):
            made.append(another_row(rng, web, made))
        moved[at] = len(made)
        made.append(row if row[0] in ("told", "late") else (row[0], *[moved[place] for place in row[1:]]))
    made.append(another_row(rng, web, made))
    first = rng.randrange(len(ring))
    turned = [moved[place] for place in ring[first:] + ring[:first]] * rng.randint(1, 3)
    return made, turned


def another_row(rng, web, rows):
    """Any row that can stand behind these."""
    choices = [("told", *bound) for bound in bounds(web)]
    choices += [("late", end) for end, begin, low, high, late in web.spans() if late is not None]
    choices += [(word, at) for word in ("sure", "soon", "ahead") for at in range(len(rows))]
    choices += [(word, *pair) for word in ("along", "wait") for pair in itertools.permutations(range(len(rows)), 2)]
    while True:
        row = rng.choice(choices)
        try:
            meaning(web, [*rows, row])
        except BadPaper:
            continue
        return row


class BestKeeper:
    """The keeper of a small web that keeps it with as many of these lengths as any keeper can."""

    def __init__(self, web, lengths):
        self.web, self.lengths = web, lengths
        self.best = functools.lru_cache(None)(self.search)

    def __call__(self, tick, done, heard):
        then = tuple(done.get(name) for name in self.web.moments())
        left = tuple(at for at, each in enumerate(self.lengths) if self.news(each, then, tick) == heard)
        return list(self.best(tick, then, left)[1])

    def news(self, lengths, then, tick):
        """What is heard until a tick with these lengths, where the moments were done then."""
        begun = {"start": 0, **dict(zip(self.web.moments(), then))}
        heard = {end: begun[begin] + lengths[end] + late for end, begin, low, high, late in self.web.spans()
                 if late is not None and begun[begin] is not None}
        return {end: hears for end, hears in heard.items() if hears <= tick}

    def search(self, tick, then, left):
        """How many of the lengths left can be kept, and what is to be done for that in this tick."""
        undone = [at for at, done in enumerate(then) if done is None]
        choices = []
        for count in range(len(undone) + 1):
            for does in itertools.combinations(undone, count):
                after = tuple(tick if at in does else done for at, done in enumerate(then))
                choices.append((self.kept(tick, after, left), [self.web.moments()[at] for at in does]))
        return max(choices)

    def kept(self, tick, then, left):
        """How many of the lengths left are kept in the end, when the moments are done then so far."""
        if tick == self.web.by:
            return sum(self.is_kept(self.lengths[at], then) for at in left)
        ways = {}
        for at in left:
            ways.setdefault(tuple(sorted(self.news(self.lengths[at], then, tick + 1).items())), []).append(at)
        return sum(self.best(tick + 1, then, tuple(way))[0] for way in ways.values())

    def is_kept(self, lengths, then):
        ticks = {"start": 0, **dict(zip(self.web.moments(), then))}
        if None in then:
            return False
        ends = {end: ticks[begin] + lengths[end] for end, begin, low, high, late in self.web.spans()}
        return all(tie_holds(tie, ticks | ends) for tie in self.web.ties())


def all_lengths(web):
    ways = [[(end, length) for length in range(low, high + 1)] for end, begin, low, high, late in web.spans()]
    return [dict(chosen) for chosen in itertools.product(*ways)]


class Spoiling(Case):
    def check_spoilt(self, web, paper, keeper):
        before, kept = state(web), copy.deepcopy(paper)
        lengths = spoil(web, paper, keeper)
        self.assertEqual((state(web), paper), (before, kept))
        self.assertIs(type(lengths), dict)
        self.assertEqual(sorted(lengths), sorted(span[0] for span in web.spans()))
        for end, begin, low, high, late in web.spans():
            self.assertIs(type(lengths[end]), int)
            self.assertTrue(low <= lengths[end] <= high)
        self.assertIsNotNone(broken(web, play(web, keeper, lengths)), (web.spans(), web.ties(), lengths))
        return lengths

    def test_keepers_of_like_webs(self):
        rng = random.Random(1)
        for web, paper in settled_webs(rng, 250, "no"):
            for loose in like_webs(rng, web):
                table = settled(loose)[1]
                for lazy in (False, True):
                    keeper = by_table(loose, table, lazy=lazy)
                    self.check_spoilt(web, paper, keeper)
                    self.check_spoilt(web, other_paper(rng, web, paper), keeper)

    def test_keepers_that_mix_the_news(self):
        rng = random.Random(2)
        for count, (web, paper) in enumerate(settled_webs(rng, 400, "no")):
            self.check_spoilt(web, paper, mixer(web, count))
            self.check_spoilt(web, other_paper(rng, web, paper), mixer(web, -count))

    def test_keepers_that_hear_nothing(self):
        rng = random.Random(3)
        for web, paper in settled_webs(rng, 300, "no"):
            self.check_spoilt(web, paper, do_nothing)
            self.check_spoilt(web, paper, by_plan({0: web.moments()}))
            plan = {}
            for name in web.moments():
                plan.setdefault(rng.randint(0, web.by), []).append(name)
            self.check_spoilt(web, paper, by_plan(plan))

    def test_the_best_keepers(self):
        rng = random.Random(4)
        mixed = 0
        for web, paper in settled_webs(rng, 250, "no", small_random_web):
            for lengths in (all_lengths(web), corners(web)):
                keeper = BestKeeper(web, lengths)
                spoilt = self.check_spoilt(web, paper, keeper)
                mixed += any(broken(web, play(web, keeper, each)) is None for each in lengths)
                self.assertIn(spoilt, all_lengths(web))
        self.assertGreater(mixed, 60)

    def test_hearing_comes_too_late(self):
        web = with_moments("a", 20).with_span("e", "start", 2, 6, late=1).with_tie("e", "a", least=0, most=0)
        paper = settled(web)[1]
        for tick in range(7):
            lengths = self.check_spoilt(web, paper, by_plan({tick: ["a"]}))
            self.assertNotEqual(lengths, {"e": tick})
        self.check_spoilt(web, paper, lambda tick, done, heard: ["a"] if heard.get("e") == tick else [])

    def test_an_end_that_is_never_heard(self):
        web = with_moments("a", 20).with_span("e", "start", 2, 6, late=None).with_tie("e", "a", least=-1, most=2)
        paper = settled(web)[1]
        for tick in range(10):
            lengths = self.check_spoilt(web, paper, by_plan({tick: ["a"]}))
            self.assertFalse(-1 <= tick - lengths["e"] <= 2)

    def test_two_ends_that_are_never_heard(self):
        web = Web(20).with_span("e", "start", 2, 6, late=None).with_span("f", "start", 1, 4, late=None)
        for least, most in ((-3, None), (None, 1)):
            tied = web.with_tie("e", "f", least=least, most=most)
            paper = settled(tied)[1]
            lengths = self.check_spoilt(tied, paper, do_nothing)
            behind = lengths["f"] - lengths["e"]
            self.assertFalse((least is None or least <= behind) and (most is None or behind <= most))

    def test_a_web_without_spans(self):
        web = with_moments("a", 5).with_tie("start", "a", least=6)
        self.assertEqual(spoil(web=web, paper=settled(web)[1], keeper=do_nothing), {})
        self.assertEqual(spoil(web, settled(web)[1], by_plan({5: ["a"]})), {})

    def test_the_told_dict_is_made_anew(self):
        web = with_moments("a", 5).with_span("e", "a", 1, 3).with_tie("start", "a", least=6)
        paper = settled(web)[1]
        told = spoil(web, paper, do_nothing)
        before = dict(told)
        told.clear()
        self.assertEqual(spoil(web, paper, do_nothing), before)


class Refused(Case):
    def web(self):
        return with_moments("a", 9).with_tie("start", "a", most=-1).with_tie("start", "a", least=1)

    rows = [("told", "start", "a", -1), ("told", "a", "start", -1), ("along", 0, 1), ("told", "a", "start", 0)]

    def check(self, row, rows, ring):
        asked = []
        paper = (copy.deepcopy(rows), copy.deepcopy(ring))
        self.check_refused(BadPaper, {"row": row}, spoil, self.web(), paper, lambda *told: asked.append(told))
        self.assertEqual((paper, asked), ((rows, ring), []))

    def test_good_papers(self):
        for ring in ([2], [0, 1], [1, 0], [0, 1, 0, 1], [2, 2], [2, 0, 1]):
            self.assertEqual(spoil(self.web(), (self.rows, ring), do_nothing), {})

    def test_wrong_rows(self):
        for at in range(4):
            for row in (("told", "start", "a", -2), ("late", "a"), ("along", 0, at), ("along", True, 1), (), None):
                rows = self.rows[:at] + [row] + self.rows[at:]
                self.check(at, rows, [2])
                self.check(at, rows, [])
                self.check(at, rows + [()], None)

    def test_wrong_rings(self):
        for ring in ([], [0], [1], [3], [4], [-1], [2, 3], [0, 3], [0, 1, 0], [True, 0], [0, True], [False, 1],
                     [None], ["2"], [2.0], [2, None], (), (2,), None, 2, "2", {2: 1}, {}):
            self.check(-1, self.rows, ring)

    def test_no_rows_at_all(self):
        self.check(-1, [], [])
        self.check(-1, [], [0])

    def test_a_steered_web_has_no_paper(self):
        web = with_moments("a", 9)
        self.check_refused(BadPaper, {"row": 0}, spoil, web, (self.rows, [2]), do_nothing)
        rows = [("told", "start", "a", 9), ("told", "a", "start", 0), ("along", 0, 1)]
        for ring in ([], [0], [1], [2], [0, 1]):
            self.check_refused(BadPaper, {"row": -1}, spoil, web, (rows, ring), do_nothing)

    def test_rings_by_paper_fits(self):
        for count in (0, 1, 2, 3):
            for ring in itertools.product(range(-1, 5), repeat=count):
                paper = (self.rows, list(ring))
                if paper_fits(self.web(), paper):
                    self.assertEqual(spoil(self.web(), paper, do_nothing), {})
                else:
                    self.check(-1, self.rows, list(ring))


if __name__ == "__main__":
    unittest.main()
