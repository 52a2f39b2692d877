"""[9]: the errors and their families."""

import unittest

from handround import errors
from tests.samples import ANY

FIELDS = {
    "InvalidPaper": ("PaperError", ("word", "at")),
    "UnknownPerson": ("TradeError", ("person",)),
    "UnknownPair": ("TradeError", ("pair",)),
    "InvalidTrade": ("TradeError", ("ring", "reason")),
    "InvalidEvent": ("TradeError", ("event", "reason")),
    "InvalidGoal": ("TradeError", ("value",)),
    "NothingToUndo": ("TradeError", ("steps",)),
    "InvalidText": ("TextError", ("line", "field")),
    "InvalidRow": ("TextError", ("row",)),
}


class ErrorTests(unittest.TestCase):
    def test_families(self):
        self.assertEqual(errors.RoundError.__bases__, (ValueError,))
        for name in ("PaperError", "TradeError", "TextError"):
            self.assertEqual(getattr(errors, name).__bases__, (errors.RoundError,))

    def test_each_error_derives_directly_from_its_family(self):
        for name, (family, fields) in FIELDS.items():
            self.assertEqual(getattr(errors, name).__bases__, (getattr(errors, family),))

    def test_no_other_errors(self):
        defined = {name for name in vars(errors) if not name.startswith("_")}
        self.assertEqual(defined, set(FIELDS) | {"RoundError", "PaperError", "TradeError", "TextError"})

    def test_fields_are_kept_as_they_are(self):
        for name, (family, fields) in FIELDS.items():
            for value in ANY + (object(), [[1]], {}):
                given = [value] + [object() for _ in fields[1:]]
                by_place = getattr(errors, name)(*given)
                by_name = getattr(errors, name)(**dict(zip(fields, given)))
                for error in (by_place, by_name):
                    kept = [getattr(error, field) for field in fields]
                    self.assertTrue(all(one is other for one, other in zip(kept, given)), name)
                    self.assertEqual(set(vars(error)), set(fields))

    def test_order_of_fields(self):
        for name, (family, fields) in FIELDS.items():
            error = getattr(errors, name)(*range(len(fields)))
            self.assertEqual([getattr(error, field) for field in fields], list(range(len(fields))))

    def test_exactly_the_fields(self):
        for name, (family, fields) in FIELDS.items():
            for many in {0, len(fields) - 1, len(fields) + 1}:
                with self.assertRaises(TypeError):
                    getattr(errors, name)(*range(many))

    def test_raised_and_caught_by_family(self):
        with self.assertRaises(ValueError):
            raise errors.InvalidText(0, 1)
        with self.assertRaises(errors.RoundError):
            raise errors.InvalidEvent(None, "shape")
        with self.assertRaises(errors.PaperError):
            raise errors.InvalidPaper("shape", -1)
