"""The refusals of the interface: families, fields and words."""

import inspect
import unittest

from tidewaiter import errors
from helpers import HUGE

FAMILIES = {
    "TideError": (ValueError, {
        "BadBy": ["by"], "BadName": ["name"], "Taken": ["name"], "Full": ["most"], "BadLength": ["low", "high"],
        "BadLate": ["late"], "BadTie": ["least", "most"], "Used": ["name"], "BadPaper": ["row"],
        "BadKeeper": ["tick"], "BadPlan": [], "BadText": ["row"], "BadDeed": ["kind"], "Unsteered": []}),
    "Missing": (LookupError, {
        "NoMoment": ["name"], "NoPoint": ["name"], "NoSpan": ["name"], "NoTie": ["at"], "NoDeed": ["at"]}),
    "RunFault": (RuntimeError, {
        "Done": ["name"], "TooEarly": ["name", "tick"], "TooLate": ["name", "tick"], "Unbegun": ["name"],
        "Unheard": ["name"], "BadNews": ["name", "tick"], "Over": ["tick"]}),
}
ROWS = [(family, word, fields) for family, (root, told) in FAMILIES.items() for word, fields in told.items()]


class Refusals(unittest.TestCase):
    def test_families(self):
        for family, (root, told) in FAMILIES.items():
            self.assertEqual(getattr(errors, family).__bases__, (root,))
        for family, word, fields in ROWS:
            self.assertEqual(getattr(errors, word).__bases__, (getattr(errors, family),))
        self.assertEqual(errors.NothingBack.__bases__, (IndexError,))

    def test_families_are_apart(self):
        for family, word, fields in ROWS:
            for other in FAMILIES:
                self.assertEqual(issubclass(getattr(errors, word), getattr(errors, other)), other == family)
            self.assertFalse(issubclass(getattr(errors, word), errors.NothingBack))

    def test_each_against_each_other(self):
        made = {word: getattr(errors, word)(*fields) for family, word, fields in ROWS}
        made["NothingBack"] = errors.NothingBack()
        above = {word: {word, family, FAMILIES[family][0].__name__} for family, word, fields in ROWS}
        above["NothingBack"] = {"NothingBack", "IndexError"}
        for word, error in made.items():
            for other in [*made, *FAMILIES]:
                self.assertEqual(isinstance(error, getattr(errors, other)), other in above[word], (word, other))
            # An IndexError is a LookupError for Python, too.
            for kind in (ValueError, RuntimeError, IndexError):
                self.assertEqual(isinstance(error, kind), kind.__name__ in above[word], (word, kind))
            self.assertEqual(isinstance(error, LookupError), bool({"LookupError", "IndexError"} & above[word]))

    def test_fields_by_position_and_by_name(self):
        for family, word, fields in ROWS:
            kind = getattr(errors, word)
            worths = [f"worth {at}" for at in range(len(fields))]
            for error in (kind(*worths), kind(**dict(zip(fields, worths)))):
                self.assertEqual([getattr(error, field) for field in fields], worths)
                self.assertEqual(error.word, word)
                self.assertIsInstance(str(error), str)

    def test_arguments_are_as_listed(self):
        for family, word, fields in ROWS:
            self.assertEqual(list(inspect.signature(getattr(errors, word)).parameters), fields)

    def test_nothing_back(self):
        self.assertEqual(errors.NothingBack().word, "NothingBack")

    def test_every_refusal_can_be_told_as_text(self):
        # Python refuses to write out numbers as great as this one.
        for family, word, fields in ROWS:
            error = getattr(errors, word)(*[HUGE for field in fields])
            self.assertTrue(str(error))
            self.assertTrue(repr(error))

    def test_each_class_is_defined_there(self):
        for word in [*FAMILIES, "NothingBack", *[row[1] for row in ROWS]]:
            self.assertEqual(getattr(errors, word).__module__, "tidewaiter.errors")

    def test_families_have_words(self):
        for family in FAMILIES:
            self.assertEqual(getattr(errors, family)().word, family)


if __name__ == "__main__":
    unittest.main()
