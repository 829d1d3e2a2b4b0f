"""Points [9], [10] and [16]: steered, held against a search through every hearing and every doing."""

import functools
import itertools
import random
import unittest

from tidewaiter.settle import steered
from tidewaiter.web import Web
from helpers import Case, middling_random_web, small_random_web, tie_holds, with_moments


def kept_whatever_is_left(web, done, heard):
    """Whether all ties hold at the end of a run, for all lengths that go with what was and wasn't heard."""
    if None in done:
        return False
    ticks = {"start": 0, **dict(zip(web.moments(), done))}
    chosen = []
    for (end, begin, low, high, late), news in zip(web.spans(), heard):
        comes = range(ticks[begin] + low, ticks[begin] + high + 1)
        if late is not None:
            comes = [news - late] if news is not None else [tick for tick in comes if tick + late > web.by]
        chosen.append([(end, tick) for tick in comes])
    return all(tie_holds(tie, {**ticks, **dict(ends)}) for ends in itertools.product(*chosen) for tie in web.ties())


def hearings(web, tick, done, heard):
    """All that can be heard in this tick: the ticks of the ends heard till then, None where none was."""
    begun = {"start": 0, **dict(zip(web.moments(), done))}
    choices = []
    for (end, begin, low, high, late), news in zip(web.spans(), heard):
        if late is None or news is not None or begun[begin] is None or tick < begun[begin] + low + late:
            choices.append([news])
        elif tick < begun[begin] + high + late:
            choices.append([None, tick])
        else:
            choices.append([tick])
    return itertools.product(*choices)


def doings(tick, done):
    """All that a keeper can do in this tick: the ticks of the moments done till then."""
    return itertools.product(*[[None, tick] if then is None else [then] for then in done])


def steered_by_search(web):
    """Whether, tick by tick, for all that is heard there is something to do with which the web is kept in the end."""
    @functools.lru_cache(None)
    def wins(tick, done, heard):
        if tick > web.by:
            return kept_whatever_is_left(web, done, heard)
        return all(any(wins(tick + 1, does, news) for does in doings(tick, done))
                   for news in hearings(web, tick, done, heard))
    return wins(0, (None,) * len(web.moments()), (None,) * len(web.spans()))


class Search(Case):
    def check_web(self, web):
        answer = steered(web)
        self.assertIs(answer, steered_by_search(web), (web.by, web.moments(), web.spans(), web.ties()))
        return answer

    def test_many_small_webs(self):
        rng = random.Random(10)
        answers = [self.check_web(small_random_web(rng)) for _ in range(2500)]
        self.assertGreater(answers.count(True), 700)
        self.assertGreater(answers.count(False), 700)

    def test_one_span_and_one_moment_in_every_way(self):
        answers = []
        for begin, (low, high), late in itertools.product(("start", "a"), ((1, 1), (1, 3), (2, 3)), (0, 1, None)):
            web = with_moments("a", 4).with_span("e", begin, low, high, late=late)
            for one, other in itertools.permutations(web.points(), 2):
                for least, most in ((None, -1), (None, 0), (None, 2), (0, None), (1, None), (0, 0), (1, 2), (-2, -1)):
                    answers.append(self.check_web(web.with_tie(one, other, least=least, most=most)))
        self.assertGreater(answers.count(True), 200)
        self.assertGreater(answers.count(False), 100)

    def test_two_ties_of_one_end(self):
        web = with_moments("ab", 6).with_span("e", "a", 1, 3)
        for late, first, second in itertools.product((0, 1, 2, None), range(-2, 3), range(-2, 3)):
            spanned = web.without("e").with_span("e", "a", 1, 3, late=late)
            self.check_web(spanned.with_tie("e", "b", least=first, most=max(first, second)))
            self.check_web(spanned.with_tie("b", "e", least=first, most=2).with_tie("a", "b", least=second))

    def test_without_moments_or_spans(self):
        self.check_web(Web(3))
        for most in (1, 2, 3):
            for late in (0, 1, None):
                self.check_web(Web(2).with_span("e", "start", 1, 3, late=late).with_tie("start", "e", most=most))
        self.check_web(with_moments("ab", 2).with_tie("a", "b", least=2))
        self.check_web(with_moments("ab", 2).with_tie("a", "b", least=3))

    def test_ends_beyond_the_last_tick(self):
        # The end comes behind the run: no moment can answer it, but ties to it may hold.
        web = with_moments("a", 2).with_span("e", "start", 3, 3)
        self.assertTrue(self.check_web(web.with_tie("a", "e", least=1)))
        self.assertFalse(self.check_web(web.with_tie("e", "a", least=0)))

    def test_answering_in_the_same_tick(self):
        web = with_moments("a", 6)
        at_once = web.with_span("e", "start", 1, 3).with_tie("e", "a", least=0, most=0)
        late = web.with_span("e", "start", 1, 3, late=1)
        self.assertTrue(self.check_web(at_once))
        self.assertFalse(self.check_web(late.with_tie("e", "a", least=0, most=0)))
        self.assertTrue(self.check_web(late.with_tie("e", "a", least=1, most=1)))


def looser(rng, web):
    """A web of which a yes must follow: a looser tie, a greater by, a narrower span, or sooner hearing."""
    choice = rng.randint(0, 3)
    if choice == 0 or (choice == 1 and not web.ties()) or (choice > 1 and not web.spans()):
        return web.with_by(web.by + rng.randint(1, 9))
    if choice == 1:
        at = rng.randrange(len(web.ties()))
        one, other, least, most = web.ties()[at]
        least = least if least is None else least - rng.randint(0, 3)
        most = most if most is None else most + rng.randint(0, 3)
        return web.without_tie(at).with_tie(one, other, least=least, most=most)
    rows = web.spans()
    end, begin, low, high, late = rows[-1]
    if choice == 2:
        low, high = sorted([rng.randint(low, high), rng.randint(low, high)])
    else:
        late = rng.randint(0, 5 if late is None else late)
    return retied(web, [*rows[:-1], (end, begin, low, high, late)])


def retied(web, spans):
    other = with_moments(web.moments(), web.by)
    for end, begin, low, high, late in spans:
        other = other.with_span(end, begin, low, high, late=late)
    for one, two, least, most in web.ties():
        other = other.with_tie(one, two, least=least, most=most)
    return other


class Looser(Case):
    def test_a_looser_web_is_steered_all_the_more(self):
        rng = random.Random(101)
        turned = 0
        for _ in range(1500):
            web = rng.choice([small_random_web, middling_random_web])(rng)
            before = steered(web)
            other = looser(rng, web)
            turned += steered(other) != before
            if before:
                self.assertTrue(steered(other), (web.spans(), web.ties(), other.by, other.spans(), other.ties()))
        # There must be webs that the looser ways do turn from a no to a yes.
        self.assertGreater(turned, 20)


if __name__ == "__main__":
    unittest.main()
