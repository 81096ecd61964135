"""The classes of errors, as the interface lists them."""

import copy
import unittest

from dimmerlog import errors
from dimmerlog.errors import DimmerError

ARGUMENTS = {
    "InvalidName": ("name",),
    "DuplicateName": ("name",),
    "UnknownName": ("name",),
    "InvalidNote": ("before", "after"),
    "InvalidLine": ("line",),
    "TooMany": ("limit",),
    "NoOrder": ("bar", "ring"),
    "InvalidOrder": (),
}

VALUES = [["some", 1], ("another", None)]


class Errors(unittest.TestCase):
    def test_base_class(self):
        self.assertEqual((ValueError,), DimmerError.__bases__)

    def test_each_is_derived_directly_and_defined_here(self):
        for name in ARGUMENTS:
            with self.subTest(name):
                made = getattr(errors, name)
                self.assertEqual((DimmerError,), made.__bases__)
                self.assertEqual("dimmerlog.errors", made.__module__)

    def test_attributes_by_position_and_by_name(self):
        for name, arguments in ARGUMENTS.items():
            values = VALUES[:len(arguments)]
            expected = dict(zip(arguments, values))
            with self.subTest(name):
                self.assertEqual(expected, vars(getattr(errors, name)(*values)))
                self.assertEqual(expected, vars(getattr(errors, name)(**expected)))

    def test_attributes_are_the_values_that_were_passed(self):
        value = ["some"]
        self.assertIs(value, errors.InvalidName(value).name)
        self.assertIs(value, errors.DuplicateName(value).name)
        self.assertIs(value, errors.UnknownName(value).name)

    def test_number_of_arguments(self):
        for name, arguments in ARGUMENTS.items():
            with self.subTest(name):
                if arguments:
                    self.assertRaises(TypeError, getattr(errors, name))
                    self.assertRaises(TypeError, getattr(errors, name), 1, 2, 3)
                else:
                    getattr(errors, name)()

    def test_each_can_be_raised_and_caught_by_its_own_name_only(self):
        for name, arguments in ARGUMENTS.items():
            with self.subTest(name):
                try:
                    raise getattr(errors, name)(*VALUES[:len(arguments)])
                except DimmerError as error:
                    others = [other for other in ARGUMENTS if other != name]
                    for other in others:
                        self.assertNotIsInstance(error, getattr(errors, other))

    def test_each_can_be_shown_and_copied(self):
        for name, arguments in ARGUMENTS.items():
            with self.subTest(name):
                error = getattr(errors, name)(*VALUES[:len(arguments)])
                self.assertIsInstance(str(error), str)
                self.assertEqual(vars(error), vars(copy.copy(error)))


if __name__ == "__main__":
    unittest.main()
