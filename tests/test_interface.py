"""The interface: each listed name, with its arguments and default values."""

import importlib
import inspect
import unittest

from tidewaiter.laying import bases, bounds, heard_spans, offset
from tidewaiter.web import Web

FUNCTIONS = {
    "laying": {"bases": "(web)", "bounds": "(web)", "heard_spans": "(web)", "offset": "(web, name)"},
}
METHODS = {
    ("web", "Web"): {
        "__init__": "(self, by=100)", "with_by": "(self, by)", "with_moment": "(self, name)",
        "with_span": "(self, end, begin, low, high, *, late=0)",
        "with_tie": "(self, one, other, *, least=None, most=None)", "without": "(self, name)",
        "without_tie": "(self, at)", "moments": "(self)", "spans": "(self)", "ties": "(self)", "points": "(self)",
        "__eq__": "(self, other)", "__len__": "(self)", "__repr__": "(self)"},
}
VALUES = {"web": {"BY": 100}}


def module(name):
    return importlib.import_module(f"tidewaiter.{name}")


class Interface(unittest.TestCase):
    def test_functions(self):
        for name, functions in FUNCTIONS.items():
            for function, arguments in functions.items():
                made = getattr(module(name), function)
                self.assertEqual(str(inspect.signature(made)), arguments, function)
                self.assertEqual(made.__module__, f"tidewaiter.{name}")

    def test_classes_have_their_methods_themselves(self):
        for (name, kind), methods in METHODS.items():
            made = getattr(module(name), kind)
            self.assertEqual(made.__module__, f"tidewaiter.{name}")
            for method, arguments in methods.items():
                self.assertIn(method, vars(made))
                self.assertEqual(str(inspect.signature(vars(made)[method])), arguments, method)

    def test_values(self):
        for name, values in VALUES.items():
            for value, worth in values.items():
                self.assertEqual(getattr(module(name), value), worth)
                self.assertIs(type(getattr(module(name), value)), type(worth))

    def test_calls_by_name(self):
        web = Web(by=5).with_moment(name="a").with_span(end="b", begin="a", low=1, high=2)
        web = web.with_tie(one="a", other="start", least=-5).with_by(by=6).with_moment(name="c")
        web = web.without(name="c").without_tie(at=0)
        self.assertEqual(bases(web=web), ["start", "a", "b"])
        self.assertEqual(bounds(web=web), [("start", "a", 6), ("a", "start", 0), ("a", "b", 2), ("b", "a", -1)])
        self.assertEqual(heard_spans(web=web), [("b", "a", 1, 2)])
        self.assertEqual(offset(web=web, name="b"), ("b", 0, 0))


if __name__ == "__main__":
    unittest.main()
