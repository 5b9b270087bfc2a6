"""Promises 2 and 3: the error classes, and the values that they keep."""

import inspect
import unittest

from blackbars import errors
from blackbars.errors import BarError
from tests.helper import any_values

ATTRIBUTES = {
    "BadWord": "value", "BadLog": "value", "BadShape": "value", "BadRule": "value",
    "BadView": "value", "BadSecret": "value", "BadCase": "value", "BadPlace": "value",
    "BadNumber": "value", "BadSighting": "value", "BadText": "value", "BadCommand": "command",
    "Shown": "pair", "TooPlain": "pair", "NothingToUndo": "many",
}


ERRORS = [(getattr(errors, name), attribute) for name, attribute in ATTRIBUTES.items()]


class ErrorTest(unittest.TestCase):
    def test_bases(self):
        self.assertEqual(BarError.__bases__, (ValueError,))
        for error, _ in ERRORS:
            self.assertEqual(error.__bases__, (BarError,), error)
            self.assertEqual(error.__module__, "blackbars.errors")

    def test_each_is_none_of_the_others(self):
        for error, _ in ERRORS:
            made = error(1)
            self.assertIsInstance(made, BarError)
            self.assertIsInstance(made, ValueError)
            for name in ATTRIBUTES:
                self.assertEqual(isinstance(made, getattr(errors, name)), name == error.__name__)

    def test_keeps_the_very_value(self):
        for error, attribute in ERRORS:
            for value in any_values():
                self.assertIs(getattr(error(value), attribute), value)
                self.assertIs(getattr(error(**{attribute: value}), attribute), value)

    def test_keeps_the_value_when_raised(self):
        for error, attribute in ERRORS:
            value = [["a"]]
            with self.assertRaises(BarError) as caught:
                raise error(value)
            self.assertIs(getattr(caught.exception, attribute), value)
            self.assertEqual(value, [["a"]])

    def test_does_not_copy_what_is_changed_later(self):
        for error, attribute in ERRORS:
            value = ["a"]
            made = error(value)
            value.append("b")
            self.assertEqual(getattr(made, attribute), ["a", "b"])

    def test_made_with_one_argument_in_its_own_class(self):
        for error, attribute in ERRORS:
            self.assertEqual(list(inspect.signature(error.__dict__["__init__"]).parameters), ["self", attribute])
            self.assertEqual(set(vars(error(1))), {attribute})
            for wrong in ((), (1, 2)):
                with self.assertRaises(TypeError):
                    error(*wrong)

    def test_no_other_error_is_there(self):
        names = [name for name, value in vars(errors).items() if inspect.isclass(value)]
        self.assertEqual(sorted(names), sorted([*ATTRIBUTES, "BarError"]))


if __name__ == "__main__":
    unittest.main()
