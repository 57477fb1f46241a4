"""The error classes: their bases, their fields and their tags."""

import unittest

from evenpace import errors

PACE_ERRORS = {
    "InvalidGate": "position",
    "InvalidFactor": "factor",
    "SamePlace": "place",
    "CapacityExceeded": "capacity",
    "NotBarring": "place",
    "NotCrossed": "quantity",
    "TooWide": "stage",
    "TooMany": "quantity",
    "Passable": "walker",
    "InvalidCount": "number",
    "InvalidName": "name",
    "DuplicateName": "name",
    "InvalidCommand": "first",
    "ParseError": "position",
}
NOT_FOUND_ERRORS = {"UnknownGate": "place", "UnknownRoad": "name"}
LONE_ERRORS = {"ZeroDenominator": ZeroDivisionError, "EmptyHistory": IndexError}
FIELDS = {**PACE_ERRORS, **NOT_FOUND_ERRORS}


class ErrorClasses(unittest.TestCase):
    def test_no_other_classes(self):
        found = {name for name, value in vars(errors).items() if isinstance(value, type)}
        self.assertEqual(found, {"PaceError", "NotFound", *FIELDS, *LONE_ERRORS})

    def test_bases(self):
        self.assertEqual(errors.PaceError.__bases__, (ValueError,))
        self.assertEqual(errors.NotFound.__bases__, (LookupError,))
        for name in PACE_ERRORS:
            self.assertEqual(getattr(errors, name).__bases__, (errors.PaceError,), name)
        for name in NOT_FOUND_ERRORS:
            self.assertEqual(getattr(errors, name).__bases__, (errors.NotFound,), name)
        for name, base in LONE_ERRORS.items():
            self.assertEqual(getattr(errors, name).__bases__, (base,), name)

    def test_no_error_derives_from_another(self):
        leaves = [*FIELDS, *LONE_ERRORS]
        for name in leaves:
            for other in leaves:
                if name != other:
                    self.assertFalse(issubclass(getattr(errors, name), getattr(errors, other)), (name, other))

    def test_fields_and_tags(self):
        for name, field in FIELDS.items():
            for value in (0, (1, 2), "word", None, 10 ** 5000):
                raised = getattr(errors, name)(value)
                self.assertEqual(vars(raised), {field: value, "tag": name})
        for name in LONE_ERRORS:
            self.assertEqual(vars(getattr(errors, name)()), {"tag": name})

    def test_message_can_be_written(self):
        for name in FIELDS:
            self.assertIn(name, str(getattr(errors, name)(10 ** 5000)))
        for name in LONE_ERRORS:
            self.assertIn(name, str(getattr(errors, name)()))

    def test_caught_by_the_base(self):
        with self.assertRaises(errors.PaceError):
            raise errors.TooWide(2)
        with self.assertRaises(errors.NotFound):
            raise errors.UnknownRoad("a")
