"""The error classes: what they stand under, what they are made with, their fields."""

import unittest

from pathshape import errors
from pathshape.errors import NoName, NoRow, NoRule, NoShape, NoSort, NoText, PathError, TooGreat, Twice

PLAIN = [NoText, NoShape, NoSort, NoRow, NoName]
NAMED = [Twice, NoRule]
ALL = PLAIN + NAMED + [TooGreat]


class ErrorsTest(unittest.TestCase):
    def test_names_are_those_of_the_classes(self):
        names = ["NoText", "NoShape", "NoSort", "NoRow", "NoName", "Twice", "NoRule", "TooGreat"]
        self.assertEqual([error.__name__ for error in ALL], names)
        for name in names + ["PathError"]:
            self.assertEqual(getattr(errors, name).__module__, "pathshape.errors")

    def test_path_error_stands_under_value_error(self):
        self.assertEqual(PathError.__bases__, (ValueError,))

    def test_each_stands_under_path_error_alone(self):
        for error in ALL:
            self.assertEqual(error.__bases__, (PathError,))

    def test_none_stands_under_another(self):
        for error in ALL:
            for other in ALL:
                self.assertEqual(issubclass(error, other), error is other)

    def test_plain_ones_are_made_without_anything_or_with_one_text(self):
        for error in PLAIN + [PathError]:
            self.assertIsInstance(error(), error)
            self.assertIsInstance(error("some words"), error)
            self.assertIn("some words", str(error("some words")))

    def test_twice_and_no_rule_have_the_field_name(self):
        for error in NAMED:
            first, second = error("a"), error("b")
            self.assertEqual((first.name, second.name), ("a", "b"))
            self.assertFalse(hasattr(first, "size"))
            self.assertIsInstance(str(first), str)

    def test_too_great_has_the_field_size(self):
        for size in [61, 62, 10 ** 40]:
            self.assertEqual(TooGreat(size).size, size)
            self.assertIs(type(TooGreat(size).size), int)
        self.assertFalse(hasattr(TooGreat(61), "name"))
        self.assertIsInstance(str(TooGreat(61)), str)

    def test_fields_are_there_when_they_are_caught(self):
        for made, field, value in [(Twice("a"), "name", "a"), (NoRule("b"), "name", "b"), (TooGreat(70), "size", 70)]:
            for caught in [type(made), PathError, ValueError]:
                with self.assertRaises(caught) as context:
                    raise made
                self.assertEqual(getattr(context.exception, field), value)

    def test_each_is_caught_as_path_error_and_as_value_error(self):
        for made in [error() for error in PLAIN] + [Twice("a"), NoRule("a"), TooGreat(61)]:
            for caught in [PathError, ValueError]:
                with self.assertRaises(caught):
                    raise made


if __name__ == "__main__":
    unittest.main()
