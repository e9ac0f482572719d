"""Tests of the errors."""

import unittest

from headskip import errors
from helpers import Case, odd_values

FIELDS = {
    "BadValue": ("value",), "BadName": ("value",), "BadTold": ("part",), "BadHead": ("part",),
    "BadFilter": ("part",), "BadRow": ("part",), "BadLots": ("part",), "BadShelf": ("part",), "BadTable": ("at",),
    "BadQuestion": ("part",), "BadRead": ("at",), "BadUpkeep": ("part",), "BadBook": ("part",),
    "BadText": ("line", "word"), "BadLine": ("word",), "NoName": ("name",), "NoBlock": ("at",), "NoCount": ("many",),
    "Taken": ("name",), "TooMany": ("what", "most"), "NoChange": (),
}


class Errors(Case):
    def test_just_these_errors_are_there(self):
        found = [name for name in vars(errors) if isinstance(getattr(errors, name), type)]
        self.assertEqual(sorted(found), sorted([*FIELDS, "SkipError"]))

    def test_each_stands_directly_below_the_base(self):
        self.assertEqual(errors.SkipError.__bases__, (ValueError,))
        for name in FIELDS:
            made = getattr(errors, name)
            self.assertEqual(made.__bases__, (errors.SkipError,))
            others = [getattr(errors, other) for other in FIELDS if other != name]
            self.assertFalse(any(issubclass(made, other) for other in others))
            self.assertFalse(issubclass(made, (LookupError, TypeError, ArithmeticError)))

    def test_attributes_keep_any_value_passed_by_position(self):
        for name, fields in FIELDS.items():
            for value in odd_values():
                parts = [value, *odd_values()[:len(fields)]][:len(fields)]
                made = getattr(errors, name)(*parts)
                for field, part in zip(fields, parts):
                    self.assertIs(getattr(made, field), part)

    def test_attributes_keep_any_value_passed_by_name(self):
        for name, fields in FIELDS.items():
            for value in odd_values():
                parts = dict(zip(fields, [value, "other"]))
                made = getattr(errors, name)(**parts)
                self.assertEqual(vars(made), parts)
                with self.assertRaises(errors.SkipError) as caught:
                    raise made
                self.assertIs(caught.exception, made)

    def test_the_number_of_arguments_is_that_of_the_fields(self):
        for name, fields in FIELDS.items():
            if fields:
                self.assertRaises(TypeError, getattr(errors, name))
                self.assertRaises(TypeError, getattr(errors, name), *[1] * (len(fields) + 1))


if __name__ == "__main__":
    unittest.main()
