import unittest

from sealedalike import errors
from tests.samples import odd_values

WITH_PARAMETER = {
    "BadBook": "part", "BadThing": "thing", "BadRow": "part", "BadText": "line", "NotHad": "paper", "Mismatch": "part",
}
WITHOUT = ("NothingToUndo", "NothingToRedo", "InvalidCommand")


class Errors(unittest.TestCase):
    def test_base_classes(self):
        self.assertEqual(errors.SealError.__bases__, (Exception,))
        for name in (*WITH_PARAMETER, *WITHOUT):
            self.assertEqual(getattr(errors, name).__bases__, (errors.SealError,), name)

    def test_parameters_are_attributes_of_any_value(self):
        for name, parameter in WITH_PARAMETER.items():
            error = getattr(errors, name)
            for value in odd_values():
                self.assertIs(getattr(error(value), parameter), value)
                self.assertIs(getattr(error(**{parameter: value}), parameter), value)

    def test_parameters_have_no_other_names_and_numbers(self):
        for name in WITH_PARAMETER:
            error = getattr(errors, name)
            for wrong in (lambda: error(), lambda: error(1, 2), lambda: error(other=1)):
                self.assertRaises(TypeError, wrong)

    def test_errors_without_parameters(self):
        for name in WITHOUT:
            error = getattr(errors, name)
            with self.assertRaises(errors.SealError):
                raise error()
            self.assertEqual(vars(error()), {})
