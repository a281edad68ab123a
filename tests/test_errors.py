"""The errors: [DOC backfilled/errors.py]."""

import unittest

from backfilled import errors
from tests_support import ODD_VALUES

FIELDS = {
    "BadName": "value", "BadColumns": "value", "BadRow": "value", "BadDay": "value", "BadNumber": "value",
    "InvalidText": "value", "InvalidCommand": "value", "BadText": "at", "BadCode": "part",
    "UnknownTable": "name", "UnknownColumn": "name", "UnknownName": "name", "NameTaken": "name",
    "BadMoment": "moment", "LimitExceeded": "limit", "NotOpen": "number", "TrialOver": None,
}


class ErrorsTest(unittest.TestCase):
    def test_made_by_position_and_by_name_with_any_value(self):
        for name, field in FIELDS.items():
            error = getattr(errors, name)
            if field is None:
                self.assertEqual(vars(error()), {})
                continue
            for value in [*ODD_VALUES, "a", 0, -5, 10 ** 50]:
                self.assertIs(getattr(error(value), field), value)
                self.assertIs(getattr(error(**{field: value}), field), value)
                self.assertEqual(list(vars(error(value))), [field])

    def test_field_must_be_there(self):
        for name, field in FIELDS.items():
            if field is not None:
                with self.assertRaises(TypeError):
                    getattr(errors, name)()

    def test_kinds(self):
        self.assertEqual(errors.BackfilledError.__bases__, (ValueError,))
        for name in FIELDS:
            error = getattr(errors, name)
            self.assertTrue(issubclass(error, errors.BackfilledError))
            for other in FIELDS:
                self.assertEqual(issubclass(error, getattr(errors, other)), other == name)

    def test_raised_and_caught(self):
        for name, field in FIELDS.items():
            error = getattr(errors, name)
            for kind in (error, errors.BackfilledError, ValueError):
                with self.assertRaises(kind) as caught:
                    raise (error() if field is None else error(3))
                self.assertIs(type(caught.exception), error)


if __name__ == "__main__":
    unittest.main()
