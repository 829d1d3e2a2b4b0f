"""Points [21] and [29]: keepers that go by a table."""

import copy
import random
import unittest

from tidewaiter.asks import corners
from tidewaiter.laying import bases, heard_spans
from tidewaiter.play import broken, by_table, play
from tidewaiter.settle import settled
from tidewaiter.table import Table, table_fits
from tidewaiter.web import Web
from helpers import Case, Mirror, any_random_web, random_bounds, random_lengths, settled_webs, state, with_moments


def keeper_by_the_words(web, table, lazy):
    """The keeper of point [29], reckoned by the mirror of a run."""
    def keeper(tick, done, heard):
        mirror = Mirror(Web())
        mirror.web, mirror.table, mirror.clock, mirror.told = web, table, tick, [*done.items(), *heard.items()]
        names = []
        while free := [name for name in mirror.may() if not lazy or mirror.due(name) <= tick]:
            names.append(free[0])
            mirror.told.append((free[0], tick))
        return names
    return keeper


def other_table(rng, web):
    """The least table of a tighter web of the same points, or None where there is none."""
    if len(web) == 1:
        return None
    one, other = rng.sample(web.points(), 2)
    least, most = random_bounds(rng, 8)
    answer, table = settled(web.with_tie(one, other, least=least, most=most))
    return table if answer == "yes" and table_fits(web, table) else None


def random_table(rng, web):
    """A table with any amounts, which need not fit."""
    names, ends = bases(web), [span[0] for span in heard_spans(web)]
    amounts = [-3, -2, -1, 0, 0, 0, 0, 1, 2, 3, 5]
    return Table({(x, y): rng.choice(amounts) for x in names for y in names},
                 {(end, x): rng.choice(amounts) for end in ends for x in names})


class ByTable(Case):
    def check_keeper(self, web, table, lazy, lengths):
        """In this play the keeper does as the words say, leaves what it is handed, and tells the same once more."""
        keeper, words = by_table(web, table, lazy=lazy), keeper_by_the_words(web, table, lazy)

        def watched(tick, done, heard):
            handed = copy.deepcopy((done, heard))
            told = keeper(tick, done, heard)
            self.assertIs(type(told), list)
            kept = list(told)
            told.append("other")
            self.assertEqual(keeper(tick, done, heard), kept)
            self.assertEqual((done, heard), handed)
            self.assertEqual(kept, words(tick, done, heard))
            return kept
        return play(web, watched, lengths)

    def test_each_play_keeps_the_web(self):
        rng = random.Random(21)
        others = 0
        for web, table in settled_webs(rng, 250, "yes"):
            before = state(web)
            tables = [table, other_table(rng, web)]
            others += tables[1] not in (None, table)
            for chosen in [each for each in tables if each is not None]:
                for lazy in (False, True):
                    for lengths in [random_lengths(rng, web) for _ in range(3)]:
                        self.assertIsNone(broken(web, self.check_keeper(web, chosen, lazy, lengths)))
            self.assertEqual(state(web), before)
        self.assertGreater(others, 50)

    def test_each_corner(self):
        for web, table in settled_webs(random.Random(22), 150, "yes"):
            for lengths in corners(web):
                for lazy in (False, True):
                    self.assertIsNone(broken(web, play(web, by_table(web, table, lazy=lazy), lengths)))

    def test_tables_that_need_not_fit(self):
        rng = random.Random(29)
        for _ in range(300):
            web = any_random_web(rng)
            for lazy in (False, True):
                self.check_keeper(web, random_table(rng, web), lazy, random_lengths(rng, web))

    def test_soon_and_lazy(self):
        web = with_moments("ab", 20).with_span("e", "a", 2, 6, late=1).with_tie("start", "a", least=3, most=5)
        web = web.with_tie("e", "b", least=0, most=4)
        answer, table = settled(web)
        for length in range(2, 7):
            soon = play(web, by_table(web, table), {"e": length})
            self.assertEqual(soon, {"start": 0, "a": 3, "e": 3 + length, "b": min(4 + length, 9)})
            lazy = play(web, by_table(web, table, lazy=True), {"e": length})
            self.assertEqual(lazy, {"start": 0, "a": 5, "e": 5 + length, "b": 9 + length})

    def test_lazy_is_told_by_its_name(self):
        web = with_moments("a", 5)
        table = settled(web)[1]
        self.assertEqual(by_table(web, table)(0, {"start": 0}, {}), ["a"])
        self.assertEqual(by_table(web=web, table=table, lazy=False)(0, {"start": 0}, {}), ["a"])
        keeper = by_table(table=table, web=web, lazy=True)
        self.assertEqual([keeper(tick, {"start": 0}, {}) for tick in (0, 4, 5, 6)], [[], [], ["a"], ["a"]])
        self.assertEqual(keeper(tick=5, done={"start": 0}, heard={}), ["a"])
        self.assertEqual(keeper(5, {"start": 0, "a": 3}, {}), [])

    def test_news_count(self):
        web = with_moments("a", 20).with_span("e", "start", 2, 9).with_tie("e", "a", least=0, most=1)
        for lazy, behind in ((False, 0), (True, 1)):
            keeper = by_table(web, settled(web)[1], lazy=lazy)
            self.assertEqual(keeper(3, {"start": 0}, {}), [])
            self.assertEqual(keeper(3 + behind, {"start": 0}, {"e": 3}), ["a"])

    def test_both_begin_again_with_the_first_moment(self):
        names = ["start", "a", "b", "c"]
        # a is due only where b is done; b and c are due in any case.
        late = Table({**{(x, y): 0 for x in names for y in names}, ("start", "a"): 9, ("c", "a"): 9}, {})
        keeper = by_table(with_moments("abc", 9), late, lazy=True)
        self.assertEqual(keeper(0, {"start": 0}, {}), ["b", "a", "c"])
        self.assertEqual(keeper(0, {"start": 0, "b": 0}, {}), ["a", "c"])
        self.assertEqual(by_table(with_moments("abc", 9), late)(0, {"start": 0}, {}), ["a", "b", "c"])

    def test_two_keepers_are_apart(self):
        web, wide = with_moments("a", 5), with_moments("ab", 3)
        one, other = by_table(web, settled(web)[1]), by_table(wide, settled(wide)[1], lazy=True)
        self.assertEqual((one(2, {"start": 0}, {}), other(2, {"start": 0}, {})), (["a"], []))
        self.assertEqual((one(3, {"start": 0}, {}), other(3, {"start": 0}, {})), (["a"], ["a", "b"]))


if __name__ == "__main__":
    unittest.main()
