"""Point 1 and the interface: the errors."""

import copy
import pickle
import unittest

from nearloops import errors
from tests.helpers import Unequal

FIELDS = {
    "BadNumber": "number",
    "BadTolerance": "tolerance",
    "BadGroup": "group",
    "BadLoop": "line",
    "UnknownState": "state",
    "BadAnswer": "answer",
    "BadJoint": "state",
    "BadKind": "by",
    "BadWatch": "line",
}
BARE = ["BadRow", "BadTable"]


class ErrorsTest(unittest.TestCase):
    def test_near_error_is_a_direct_subclass_of_value_error(self):
        self.assertEqual(errors.NearError.__bases__, (ValueError,))
        self.assertIsInstance(errors.NearError(), ValueError)

    def test_all_others_are_direct_subclasses_of_near_error(self):
        for name in [*FIELDS, *BARE]:
            with self.subTest(name):
                kind = getattr(errors, name)
                self.assertEqual(kind.__bases__, (errors.NearError,))
                self.assertEqual(kind.__name__, name)
                self.assertEqual(kind.__module__, "nearloops.errors")

    def test_there_are_no_other_errors(self):
        kinds = [name for name, kind in vars(errors).items() if isinstance(kind, type)]
        self.assertEqual(sorted(kinds), sorted(["NearError", *FIELDS, *BARE]))

    def test_a_field_is_kept_as_it_was_passed(self):
        values = [0, "a", None, [1, [2]], {"a": 1}, 10 ** 5000, Unequal(), float("nan")]
        for name, field in FIELDS.items():
            kind = getattr(errors, name)
            for value in values:
                with self.subTest(name):
                    self.assertIs(getattr(kind(value), field), value)
                    self.assertIs(getattr(kind(**{field: value}), field), value)
                    self.assertIsInstance(str(kind(value)), str)

    def test_each_error_takes_exactly_its_fields(self):
        for name in FIELDS:
            kind = getattr(errors, name)
            self.assertRaises(TypeError, kind)
            self.assertRaises(TypeError, kind, 1, 2)
        for name in BARE:
            kind = getattr(errors, name)
            self.assertEqual(vars(kind()), {})
            self.assertRaises(TypeError, kind, 1)

    def test_errors_can_be_copied(self):
        for name, field in FIELDS.items():
            error = getattr(errors, name)(**{field: 7})
            self.assertEqual(vars(copy.copy(error)), {field: 7})
            self.assertEqual(vars(pickle.loads(pickle.dumps(error))), {field: 7})
        for name in BARE:
            kind = getattr(errors, name)
            self.assertIs(type(pickle.loads(pickle.dumps(kind()))), kind)

    def test_errors_are_caught_as_value_errors(self):
        for name in FIELDS:
            with self.assertRaises(ValueError):
                raise getattr(errors, name)(1)
        for name in BARE:
            with self.assertRaises(ValueError):
                raise getattr(errors, name)()


if __name__ == "__main__":
    unittest.main()
