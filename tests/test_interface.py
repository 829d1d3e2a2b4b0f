"""The interface: each listed name, with its arguments and default values."""

import importlib
import inspect
import unittest

from tidewaiter.asks import corners, culprits, deaf, deafest, foreseen, soonest, widest
from tidewaiter.desk import Desk
from tidewaiter.laying import bases, bounds, heard_spans, offset
from tidewaiter.log import Log
from tidewaiter.pages import page, read_page
from tidewaiter.papers import meaning, paper_fits
from tidewaiter.plans import chosen, laid, need_plan, readings
from tidewaiter.play import broken, by_table, play, spoil
from tidewaiter.settle import settled, steered
from tidewaiter.table import Table, table_fits
from tidewaiter.texts import read_web, write_web
from tidewaiter.tongue import read_plan, write_plan
from tidewaiter.waiter import Waiter
from tidewaiter.web import Web

FUNCTIONS = {
    "laying": {"bases": "(web)", "bounds": "(web)", "heard_spans": "(web)", "offset": "(web, name)"},
    "table": {"table_fits": "(web, table)"},
    "papers": {"meaning": "(web, rows)", "paper_fits": "(web, paper)"},
    "settle": {"settled": "(web)", "steered": "(web)"},
    "play": {"play": "(web, keeper, lengths)", "broken": "(web, ticks)", "by_table": "(web, table, *, lazy=False)",
             "spoil": "(web, paper, keeper)"},
    "asks": {"deaf": "(web)", "foreseen": "(web)", "corners": "(web)", "widest": "(web, end)",
             "deafest": "(web, end)", "soonest": "(web)", "culprits": "(web)"},
    "plans": {"need_plan": "(plan)", "readings": "(plan)", "laid": "(plan, *, by=100)", "chosen": "(plan, *, by=100)"},
    "tongue": {"write_plan": "(plan)", "read_plan": "(text)"},
    "texts": {"write_web": "(web)", "read_web": "(text)"},
    "pages": {"page": "(log)", "read_page": "(text)"},
}
METHODS = {
    ("web", "Web"): {
        "__init__": "(self, by=100)", "with_by": "(self, by)", "with_moment": "(self, name)",
        "with_span": "(self, end, begin, low, high, *, late=0)",
        "with_tie": "(self, one, other, *, least=None, most=None)", "without": "(self, name)",
        "without_tie": "(self, at)", "moments": "(self)", "spans": "(self)", "ties": "(self)", "points": "(self)",
        "__eq__": "(self, other)", "__len__": "(self)", "__repr__": "(self)"},
    ("table", "Table"): {
        "__init__": "(self, betweens, untils)", "between": "(self, x, y)", "until": "(self, end, x)",
        "betweens": "(self)", "untils": "(self)", "__eq__": "(self, other)", "__len__": "(self)",
        "__repr__": "(self)"},
    ("waiter", "Waiter"): {
        "__init__": "(self, web)", "may": "(self)", "must": "(self)", "told": "(self)", "due": "(self, name)",
        "do": "(self, name)", "hear": "(self, end)", "pass_on": "(self)", "step_back": "(self)",
        "tighten": "(self, one, other, *, least=None, most=None)", "go": "(self, steps)", "is_over": "(self)",
        "rest": "(self)", "twin": "(self)", "__len__": "(self)"},
    ("log", "Log"): {
        "__init__": "(self, by=100)", "do": "(self, deed)", "deal": "(self, deeds)", "now": "(self)",
        "answer": "(self)", "deeds": "(self)", "undo": "(self)", "redo": "(self)", "as_of": "(self, count)",
        "twin": "(self)", "__len__": "(self)"},
    ("desk", "Desk"): {"__init__": "(self, by=100)", "say": "(self, line)"},
}
VALUES = {"web": {"BY": 100}}


def module(name):
    return importlib.import_module(f"tidewaiter.{name}")


class Interface(unittest.TestCase):
    def test_functions(self):
        for name, functions in FUNCTIONS.items():
            for function, arguments in functions.items():
                made = getattr(module(name), function)
                self.assertEqual(str(inspect.signature(made)), arguments, function)
                self.assertEqual(made.__module__, f"tidewaiter.{name}")

    def test_classes_have_their_methods_themselves(self):
        for (name, kind), methods in METHODS.items():
            made = getattr(module(name), kind)
            self.assertEqual(made.__module__, f"tidewaiter.{name}")
            for method, arguments in methods.items():
                self.assertIn(method, vars(made))
                self.assertEqual(str(inspect.signature(vars(made)[method])), arguments, method)

    def test_values(self):
        for name, values in VALUES.items():
            for value, worth in values.items():
                self.assertEqual(getattr(module(name), value), worth)
                self.assertIs(type(getattr(module(name), value)), type(worth))

    def test_calls_by_name(self):
        web = Web(by=5).with_moment(name="a").with_span(end="b", begin="a", low=1, high=2)
        web = web.with_tie(one="a", other="start", least=-5).with_by(by=6).with_moment(name="c")
        web = web.without(name="c").without_tie(at=0)
        self.assertEqual(bases(web=web), ["start", "a", "b"])
        self.assertEqual(bounds(web=web), [("start", "a", 6), ("a", "start", 0), ("a", "b", 2), ("b", "a", -1)])
        self.assertEqual(heard_spans(web=web), [("b", "a", 1, 2)])
        self.assertEqual(offset(web=web, name="b"), ("b", 0, 0))

    def test_settling_by_name(self):
        web = Web(by=5).with_moment("a").with_span("b", "a", 1, 2)
        answer, table = settled(web=web)
        self.assertEqual((answer, steered(web=web), table_fits(table=table, web=web)), ("yes", True, True))
        self.assertEqual(Table(untils=table.untils(), betweens=table.betweens()), table)
        self.assertEqual((table.between(y="b", x="a"), table.until(x="a", end="b")), (2, 0))
        tight = web.with_tie("start", "a", most=-1)
        rows, ring = settled(web=tight)[1]
        self.assertEqual(len(meaning(rows=rows, web=tight)), len(rows))
        self.assertIs(paper_fits(paper=(rows, ring), web=tight), True)

    def test_waiting_by_name(self):
        waiter = Waiter(web=Web(by=5).with_moment("a").with_span("b", "a", 1, 2))
        waiter.tighten(one="start", other="a", least=0, most=4)
        waiter.do(name="a")
        waiter.go(steps=[("pass",)])
        waiter.hear(end="b")
        self.assertEqual((waiter.due(name="a"), waiter.clock, waiter.is_over(), len(waiter)), (0, 1, True, 3))
        self.assertEqual(waiter.web, Web(5).with_moment("a").with_span("b", "a", 1, 2).with_tie(
            "start", "a", least=0, most=4))

    def test_playing_by_name(self):
        web = Web(by=5).with_moment("a").with_span("b", "a", 1, 2)
        keeper = by_table(table=settled(web)[1], web=web, lazy=True)
        ticks = play(lengths={"b": 2}, keeper=keeper, web=web)
        self.assertEqual((ticks, broken(ticks=ticks, web=web)), ({"start": 0, "a": 5, "b": 7}, None))
        tight = web.with_tie("start", "a", most=-1)
        self.assertEqual(list(spoil(keeper=keeper, paper=settled(tight)[1], web=tight)), ["b"])

    def test_asking_by_name(self):
        web = Web(by=5).with_span("b", "start", 1, 2)
        self.assertEqual((deaf(web=web).spans(), foreseen(web=web)), ([("b", "start", 1, 2, None)], True))
        self.assertEqual((corners(web=web), culprits(web=web)), ([{"b": 1}, {"b": 2}], []))
        self.assertEqual((widest(end="b", web=web), deafest(end="b", web=web), soonest(web=web)), (1000, 1000, 1))

    def test_planning_by_name(self):
        plan = ("ours", 2, 5)
        self.assertEqual((need_plan(plan=plan), readings(plan=plan)), (None, [plan]))
        self.assertEqual(laid(by=9, plan=plan), Web(9).with_moment("a").with_tie("start", "a", least=2, most=5))
        self.assertEqual((chosen(by=9, plan=plan), chosen(by=1, plan=plan)), (plan, None))
        self.assertEqual(read_plan(text=write_plan(plan=plan)), plan)

    def test_texts_and_logs_by_name(self):
        web = Web(by=5).with_moment("a").with_moment("b")
        self.assertEqual(read_web(text=write_web(web=web)), web)
        log = Log(by=9)
        log.do(deed=("by", 5))
        self.assertEqual(log.deal(deeds=[("moment", "a"), ("moment", "b")]), web)
        self.assertEqual((log.as_of(count=0), log.as_of(count=2)), (Web(9), web))
        self.assertEqual(read_page(text=page(log=log)).deeds(), log.deeds())
        self.assertEqual(Desk(by=5).say(line="web"), "by 5")

    def test_what_stands_behind_the_star_by_its_name_only(self):
        web = Web().with_moment("a")
        for call in (lambda: web.with_span("e", "a", 1, 2, 0), lambda: web.with_tie("start", "a", 1),
                     lambda: Waiter(web).tighten("start", "a", 1), lambda: Waiter(web).tighten("start", "a", 1, 2),
                     lambda: by_table(web, settled(web)[1], True), lambda: laid(("ours", 2, 5), 9),
                     lambda: chosen(("ours", 2, 5), 9)):
            with self.assertRaises(TypeError):
                call()

    def test_values_are_set_at_once(self):
        web = Web(7).with_moment("a")
        waiter = Waiter(web)
        self.assertEqual((vars(waiter)["clock"], vars(waiter)["web"]), (0, web))
        self.assertIs(type(waiter.clock), int)


if __name__ == "__main__":
    unittest.main()
