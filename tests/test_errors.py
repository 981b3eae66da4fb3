"""The errors of the interface and what they keep."""

import unittest

from aswritten import errors


class Errors(unittest.TestCase):
    with_arguments = {
        "BadModel": ("part", "number"),
        "BadView": ("number",),
        "BadText": ("line",),
        "UnknownName": ("name",),
    }
    without_arguments = ("BadRow", "BadWish", "NothingLeft", "TooFar")

    def test_written_error_is_a_direct_subclass_of_value_error(self):
        self.assertEqual(errors.WrittenError.__bases__, (ValueError,))

    def test_every_error_is_a_direct_subclass_of_written_error(self):
        for name in (*self.with_arguments, *self.without_arguments):
            with self.subTest(name):
                self.assertEqual(getattr(errors, name).__bases__, (errors.WrittenError,))
                self.assertEqual(getattr(errors, name).__module__, "aswritten.errors")

    def test_arguments_are_kept_as_attributes(self):
        told = ("unknowns", 3)
        for name, attributes in self.with_arguments.items():
            with self.subTest(name):
                kind = getattr(errors, name)
                by_position = kind(*told[:len(attributes)])
                by_name = kind(**dict(zip(attributes, told)))
                for error in (by_position, by_name):
                    self.assertEqual([getattr(error, key) for key in attributes], list(told[:len(attributes)]))

    def test_a_name_may_be_any_value(self):
        for name in (None, True, "", ("best", "T"), (((),), -1), "a'b", 10 ** 29):
            with self.subTest(name):
                self.assertIs(errors.UnknownName(name).name, name)

    def test_the_others_are_made_without_arguments(self):
        for name in self.without_arguments:
            with self.subTest(name):
                kind = getattr(errors, name)
                with self.assertRaises(errors.WrittenError):
                    raise kind()

    def test_each_error_has_a_message(self):
        for error in (errors.BadModel("soft", 1), errors.BadView(-1), errors.BadText(2), errors.UnknownName("x"),
                      errors.BadRow(), errors.BadWish(), errors.NothingLeft(), errors.TooFar()):
            with self.subTest(error):
                self.assertNotEqual(str(error), "")
