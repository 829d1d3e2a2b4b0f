"""Points [37] and [38]: the log."""

import copy
import random
import unittest
from unittest import mock

from tidewaiter.errors import (BadBy, BadDeed, BadLate, BadLength, BadName, BadTie, Full, Missing, NoDeed, NoMoment,
                               NoPoint, NothingBack, NoTie, Taken, TideError, Used)
from tidewaiter.log import Log
from tidewaiter.settle import settled
from tidewaiter.web import Web
from helpers import HUGE, TRUTHS, Case, done_to, random_deed, state

DEEDS = [("by", 50), ("moment", "a"), ("span", "e", "a", 3, 7, 2), ("tie", "e", "a", None, 9), ("moment", "b"),
         ("without", "b"), ("untie", 0)]
NO_DEEDS = [((), ""), (("other",), "other"), (("",), ""), (("Moment", "a"), "Moment"), (("moment ", "a"), "moment "),
            ((None, "a"), None), ((3, "a"), 3), ((("moment",), "a"), ("moment",)), ((["moment"], "a"), ["moment"]),
            ((mock.ANY, "a"), mock.ANY), ((b"moment", "a"), b"moment"), ((True,), True),
            *[(deed[:count], deed[0]) for deed in DEEDS for count in range(1, len(deed))],
            *[((*deed, more), deed[0]) for deed in DEEDS for more in (None, 0, "a")]]


def standing(log):
    """All that a log tells, with all that can be undone and done again."""
    held = (len(log), log.deeds(), state(log.now()), [state(log.as_of(count)) for count in range(len(log) + 1)])
    other, undone, redone = log.twin(), [], []
    while True:
        try:
            redone.append(other.redo())
        except NothingBack:
            break
    while len(other):
        undone.append(other.undo())
    return held, undone, redone


class Model:
    """A log by the words: lists of what was done and taken back, and the web made anew each time."""

    def __init__(self, by):
        self.by, self.done, self.undone = by, [], []

    def web(self, count):
        web = Web(self.by)
        for done in self.done[:count]:
            for deed in done if isinstance(done, list) else [done]:
                web = done_to(web, deed)
        return web


class Doing(Case):
    def test_a_new_log(self):
        log = Log()
        self.assertEqual((log.now(), log.deeds(), len(log), log.as_of(0)), (Web(), [], 0, Web()))
        for by in (1, 77, 1000):
            self.assertEqual((Log(by).now(), Log(by=by).now()), (Web(by), Web(by)))

    def test_bad_by(self):
        for by in (0, 1001, -1, HUGE, None, "9", 9.0, (9,), mock.ANY, *TRUTHS):
            self.check_refused(BadBy, {"by": by}, Log, by)
            self.check_refused(BadBy, {"by": by}, Log, by=by)

    def test_each_deed(self):
        log, web = Log(by=9), Web(9)
        for count, deed in enumerate(DEEDS, 1):
            web = done_to(web, deed)
            told = log.do(deed=deed) if count % 2 else log.do(deed)
            self.assertEqual((told, log.now(), len(log), log.deeds()), (web, web, count, DEEDS[:count]))
            self.assertIs(type(told), Web)
        self.assertEqual([log.as_of(count) for count in (0, 1, 2)], [Web(9), Web(50), Web(50).with_moment("a")])

    def test_each_deed_as_its_web(self):
        log = Log()
        self.assertEqual(log.do(("by", 7)), Web(7))
        self.assertEqual(log.do(("moment", "a")), Web(7).with_moment("a"))
        spanned = Web(7).with_moment("a").with_span("e", "a", 1, 2, late=None)
        self.assertEqual(log.do(("span", "e", "a", 1, 2, None)), spanned)
        self.assertEqual(log.do(("tie", "a", "e", -1, None)), spanned.with_tie("a", "e", least=-1))
        self.assertEqual(log.do(("tie", "a", "e", None, 5)),
                         spanned.with_tie("a", "e", least=-1).with_tie("a", "e", most=5))
        self.assertEqual(log.do(("untie", 0)), spanned.with_tie("a", "e", most=5))
        self.assertEqual(log.do(("untie", 0)), spanned)
        self.assertEqual(log.do(("without", "e")), Web(7).with_moment("a"))

    def test_dealings(self):
        log = Log(by=9)
        self.assertEqual(log.deal(DEEDS[:2]), Web(50).with_moment("a"))
        self.assertEqual((len(log), log.deeds()), (1, [DEEDS[:2]]))
        log.deal(deeds=DEEDS[2:])
        self.assertEqual((len(log), log.deeds(), log.now()), (2, [DEEDS[:2], DEEDS[2:]], done_to(
            Web(50).with_moment("a"), ("span", "e", "a", 3, 7, 2))))
        log.do(("by", 3))
        self.assertEqual(log.deeds(), [DEEDS[:2], DEEDS[2:], ("by", 3)])
        self.assertIs(type(log.deeds()[0]), list)
        self.assertIs(type(log.deeds()[2]), tuple)
        self.assertEqual([log.as_of(count).by for count in range(4)], [9, 50, 50, 3])

    def test_answer(self):
        log = Log(by=9)
        self.assertEqual(log.answer(), settled(Web(9)))
        log.do(("moment", "a"))
        log.do(("tie", "start", "a", 3, 5))
        self.assertEqual(log.answer(), settled(log.now()))
        self.assertEqual(log.answer()[0], "yes")
        log.do(("tie", "start", "a", 10, None))
        self.assertEqual(log.answer(), settled(log.now()))
        self.assertEqual(log.answer()[0], "no")
        log.answer()[1][0].clear()
        self.assertEqual(log.answer(), settled(log.now()))

    def test_handed_lists_changed_behind(self):
        log = Log()
        deeds = [("moment", "a"), ("moment", "b")]
        log.deal(deeds)
        self.assertEqual(deeds, [("moment", "a"), ("moment", "b")])
        deeds[0] = ("by", 3)
        deeds.append(("by", 4))
        self.assertEqual(log.deeds(), [[("moment", "a"), ("moment", "b")]])
        self.assertEqual(log.undo(), [("moment", "a"), ("moment", "b")])
        self.assertEqual(log.redo(), [("moment", "a"), ("moment", "b")])

    def test_told_lists_changed(self):
        log = Log()
        log.deal([("moment", "a"), ("moment", "b")])
        log.do(("moment", "c"))
        before = standing(log)
        told = log.deeds()
        told[0].clear()
        told.clear()
        self.assertEqual(standing(log), before)
        log.undo()
        taken = log.undo()
        taken.clear()
        back = log.redo()
        self.assertEqual(back, [("moment", "a"), ("moment", "b")])
        back.clear()
        self.assertEqual(log.redo(), ("moment", "c"))
        self.assertEqual(standing(log), before)


class Refused(Case):
    def log(self):
        """A log with a deed, a dealing, and something to do again."""
        log = Log(20)
        for deed in (("moment", "a"), ("moment", "b"), ("by", 9), ("moment", "c")):
            log.do(deed)
        log.undo()
        log.undo()
        log.deal([("span", "e", "a", 1, 2, 0), ("tie", "a", "b", 1, None)])
        log.do(("by", 7))
        log.do(("by", 8))
        log.undo()
        return log

    def check(self, kind, fields, deed):
        """A deed is refused alone, and at each place of a dealing; all stands as it did."""
        log = self.log()
        before = standing(log)
        self.check_refused(kind, fields, log.do, deed)
        good = [("moment", "x"), ("moment", "y"), ("by", 4)]
        for at in range(4):
            deeds = [*good[:at], deed, *good[at:]]
            handed = copy.copy(deeds)
            self.check_refused(kind, fields, log.deal, deeds)
            self.assertEqual(len(deeds), len(handed))
        self.assertEqual(standing(log), before)
        self.assertEqual(log.redo(), ("by", 8))

    def test_as_the_web(self):
        for kind, fields, deed in (
                (BadBy, {"by": 0}, ("by", 0)), (BadBy, {"by": None}, ("by", None)), (BadBy, {"by": True}, ("by", True)),
                (BadName, {"name": "A"}, ("moment", "A")), (BadName, {"name": ["a"]}, ("moment", ["a"])),
                (Taken, {"name": "a"}, ("moment", "a")), (Taken, {"name": "e"}, ("span", "e", "a", 1, 2, 0)),
                (NoMoment, {"name": "e"}, ("span", "f", "e", 1, 2, 0)),
                (BadLength, {"low": 2, "high": 1}, ("span", "f", "a", 2, 1, 0)),
                (BadLate, {"late": -1}, ("span", "f", "a", 1, 2, -1)),
                (NoPoint, {"name": "z"}, ("tie", "z", "a", 1, 2)), (NoPoint, {"name": "z"}, ("tie", "a", "z", 1, 2)),
                (BadTie, {"least": None, "most": None}, ("tie", "a", "b", None, None)),
                (BadTie, {"least": 2, "most": 1}, ("tie", "a", "b", 2, 1)),
                (NoPoint, {"name": "start"}, ("without", "start")), (NoPoint, {"name": None}, ("without", None)),
                (Used, {"name": "a"}, ("without", "a")),
                (NoTie, {"at": 1}, ("untie", 1)), (NoTie, {"at": -1}, ("untie", -1)),
                (NoTie, {"at": False}, ("untie", False))):
            self.check(kind, fields, deed)

    def test_full(self):
        log = Log()
        for name in "abcdefghij":
            log.do(("moment", name))
        before = standing(log)
        self.check_refused(Full, {"most": 10}, log.do, ("moment", "k"))
        self.check_refused(Full, {"most": 10}, log.deal, [("by", 3), ("moment", "k")])
        self.assertEqual(standing(log), before)
        log.deal([("without", "a"), ("moment", "k")])
        self.assertEqual(log.now().moments(), list("bcdefghijk"))

    def test_no_deeds(self):
        for deed, word in NO_DEEDS:
            self.check(BadDeed, {"kind": word}, deed)

    def test_no_deeds_ahead_of_all_else(self):
        log = self.log()
        before = standing(log)
        for deed, word in NO_DEEDS:
            for deeds in ([deed], [("by", 0), deed], [("moment", "a"), ("by", None), deed], [deed, deed],
                          [deed, ("more",)], [("by", 0), deed, (), ("more",)]):
                self.check_refused(BadDeed, {"kind": word}, log.deal, deeds)
        self.assertEqual(standing(log), before)

    def test_lists_of_less_than_two(self):
        log = self.log()
        before = standing(log)
        for deeds in ([], [("by", 3)], [("by", 0)], [("moment", "a")], [("untie", 99)]):
            self.check_refused(BadDeed, {"kind": ""}, log.deal, deeds)
        self.assertEqual(standing(log), before)

    def test_the_first_refusal_of_a_dealing(self):
        log = self.log()
        before = standing(log)
        self.check_refused(Taken, {"name": "x"}, log.deal, [("moment", "x"), ("moment", "x"), ("by", 0)])
        self.check_refused(BadBy, {"by": 0}, log.deal, [("moment", "x"), ("by", 0), ("moment", "x")])
        self.check_refused(NoPoint, {"name": "x"}, log.deal, [("moment", "x"), ("without", "x"), ("without", "x")])
        self.assertEqual(standing(log), before)


class Back(Case):
    def test_through_all(self):
        log = Log(9)
        entries = [DEEDS[0], DEEDS[1:4], DEEDS[4], DEEDS[5:]]
        log.do(entries[0])
        log.deal(entries[1])
        log.do(entries[2])
        log.deal(entries[3])
        webs = [log.as_of(count) for count in range(5)]
        for _ in range(2):
            for count in (3, 2, 1, 0):
                self.assertEqual(log.undo(), entries[count])
                self.assertEqual((len(log), log.deeds(), log.now()), (count, entries[:count], webs[count]))
            self.check_refused(NothingBack, {}, log.undo)
            self.assertEqual((len(log), log.now()), (0, Web(9)))
            for count in (1, 2, 3, 4):
                self.assertEqual(log.redo(), entries[count - 1])
                self.assertEqual((len(log), log.deeds(), log.now()), (count, entries[:count], webs[count]))
            self.check_refused(NothingBack, {}, log.redo)
            self.assertEqual((len(log), log.now()), (4, webs[4]))

    def test_a_new_log_has_nothing_back(self):
        log = Log()
        self.check_refused(NothingBack, {}, log.undo)
        self.check_refused(NothingBack, {}, log.redo)
        log.do(("by", 3))
        self.check_refused(NothingBack, {}, log.redo)
        self.assertEqual(log.undo(), ("by", 3))
        self.check_refused(NothingBack, {}, log.undo)

    def test_a_granted_deed_ends_what_can_be_done_again(self):
        for grant in (lambda log: log.do(("by", 3)), lambda log: log.deal([("by", 3), ("by", 4)])):
            log = Log()
            log.do(("moment", "a"))
            log.do(("moment", "b"))
            log.undo()
            log.undo()
            grant(log)
            self.check_refused(NothingBack, {}, log.redo)
            log.undo()
            self.assertEqual((len(log), log.now()), (0, Web()))

    def test_a_refused_deed_does_not(self):
        log = Log()
        log.do(("moment", "a"))
        log.undo()
        for kind, call, told in ((BadBy, log.do, ("by", 0)), (BadDeed, log.do, ()), (BadDeed, log.deal, [("by", 3)]),
                                 (BadBy, log.deal, [("by", 3), ("by", 0)]), (NoDeed, log.as_of, 1)):
            self.check_refused(kind, {}, call, told)
        self.check_refused(NothingBack, {}, log.undo)
        self.assertEqual(log.redo(), ("moment", "a"))

    def test_as_of(self):
        log = Log(9)
        log.do(("moment", "a"))
        log.deal([("moment", "b"), ("by", 3)])
        log.do(("by", 4))
        log.undo()
        self.assertEqual([log.as_of(0), log.as_of(1), log.as_of(count=2)],
                         [Web(9), Web(9).with_moment("a"), Web(3).with_moment("a").with_moment("b")])
        for count in (-1, -2, 3, 4, HUGE, -HUGE, None, *TRUTHS, "1", 1.0, (1,), mock.ANY):
            self.check_refused(NoDeed, {"at": count}, log.as_of, count)
        self.assertEqual((len(log), log.redo()), (2, ("by", 4)))
        self.assertEqual(log.as_of(3).by, 4)

    def test_twin(self):
        log = Log(9)
        log.do(("moment", "a"))
        log.deal([("moment", "b"), ("by", 3)])
        log.do(("by", 4))
        log.undo()
        other = log.twin()
        self.assertIs(type(other), Log)
        self.assertEqual(standing(other), standing(log))
        before = standing(log)
        other.redo()
        other.undo()
        other.undo()
        other.do(("moment", "x"))
        self.assertEqual(standing(log), before)
        self.assertEqual(other.deeds(), [("moment", "a"), ("moment", "x")])
        held = standing(other)
        log.redo()
        log.undo()
        log.undo()
        log.undo()
        log.do(("by", 1))
        self.assertEqual(standing(other), held)
        self.assertEqual(other.as_of(0), Web(9))

    def test_many_logs_by_the_words(self):
        rng = random.Random(38)
        granted = refused = 0
        for _ in range(150):
            by = rng.randint(1, 40)
            log, model = Log(by), Model(by)
            for _ in range(25):
                log = log.twin() if rng.random() < 0.1 else log
                if rng.random() < 0.4:
                    self.check_back(rng, log, model)
                else:
                    done = self.check_deeds(rng, log, model)
                    granted, refused = granted + done, refused + (not done)
                self.check_as_model(log, model)
        self.assertTrue(granted > 400 and refused > 400, (granted, refused))

    def check_back(self, rng, log, model):
        word = rng.choice(["undo", "undo", "redo"])
        one, other = (model.done, model.undone) if word == "undo" else (model.undone, model.done)
        if not one:
            self.check_refused(NothingBack, {}, getattr(log, word))
            return
        self.assertEqual(getattr(log, word)(), one[-1])
        other.append(one.pop())

    def check_deeds(self, rng, log, model):
        deeds = [random_deed(rng, log.now()) for _ in range(rng.choice([1, 1, 2, 3]))]
        web = model.web(len(model.done))
        try:
            for deed in deeds:
                web = done_to(web, deed)
        except (TideError, Missing) as refusal:
            self.check_refused(type(refusal), {}, *((log.do, deeds[0]) if len(deeds) == 1 else (log.deal, deeds)))
            return False
        self.assertEqual(log.do(deeds[0]) if len(deeds) == 1 else log.deal(deeds), web)
        model.done.append(deeds[0] if len(deeds) == 1 else deeds)
        model.undone.clear()
        return True

    def check_as_model(self, log, model):
        self.assertEqual((len(log), log.deeds(), log.now()),
                         (len(model.done), model.done, model.web(len(model.done))))
        for count in range(len(log) + 1):
            self.assertEqual(log.as_of(count), model.web(count))


if __name__ == "__main__":
    unittest.main()
