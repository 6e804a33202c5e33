"""The errors: their classes, their bases and their fields [3]."""

import copy
import pickle
import unittest

from twocombs import errors

WORDED = ["InvalidNumber", "InvalidState", "InvalidHeight", "Impossible", "NothingToUndo", "InvalidCommand"]
FIELDS = {"InvalidComb": "index", "InvalidDevice": "index", "InvalidMoves": "index", "InvalidLooks": "index",
          "InvalidSyntax": "word"}


class ErrorsTest(unittest.TestCase):
    def test_base(self):
        self.assertEqual(errors.CombError.__bases__, (ValueError,))
        self.assertEqual(str(errors.CombError("a b")), "a b")
        self.assertEqual(errors.CombError("a b").args, ("a b",))

    def test_every_error_is_a_direct_subclass(self):
        for name in WORDED + list(FIELDS):
            with self.subTest(name=name):
                self.assertEqual(getattr(errors, name).__bases__, (errors.CombError,))

    def test_there_are_no_further_errors(self):
        found = [name for name, value in vars(errors).items() if isinstance(value, type)]
        self.assertEqual(sorted(found), sorted(WORDED + list(FIELDS) + ["CombError"]))

    def test_errors_without_fields_take_one_string(self):
        for name in WORDED:
            with self.subTest(name=name):
                error = getattr(errors, name)("some words")
                self.assertEqual(str(error), "some words")
                self.assertEqual(error.args, ("some words",))
                self.assertEqual(vars(error), {})

    def test_fields_by_position_and_by_name(self):
        for name, field in FIELDS.items():
            for value in (None, 0, 1, 39):
                with self.subTest(name=name, value=value):
                    made = getattr(errors, name)
                    self.assertEqual(vars(made(value)), {field: value})
                    self.assertEqual(vars(made(**{field: value})), {field: value})

    def test_errors_with_fields_take_just_these(self):
        for name in FIELDS:
            with self.subTest(name=name):
                self.assertRaises(TypeError, getattr(errors, name))
                self.assertRaises(TypeError, getattr(errors, name), 1, 2)

    def test_errors_with_fields_have_words(self):
        for name in FIELDS:
            with self.subTest(name=name):
                self.assertIn("7", str(getattr(errors, name)(7)))

    def test_errors_are_copied_with_their_fields(self):
        for name, field in FIELDS.items():
            with self.subTest(name=name):
                error = getattr(errors, name)(7)
                for twin in (copy.copy(error), pickle.loads(pickle.dumps(error))):
                    self.assertEqual((type(twin), vars(twin)), (type(error), {field: 7}))

    def test_each_is_caught_as_the_base_and_as_value_error(self):
        for name in WORDED + list(FIELDS):
            with self.subTest(name=name):
                for base in (errors.CombError, ValueError):
                    with self.assertRaises(base):
                        raise getattr(errors, name)("x")


if __name__ == "__main__":
    unittest.main()
