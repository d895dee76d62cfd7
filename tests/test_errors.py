"""The error classes: their places in the hierarchy, their arguments and attributes [11]."""

import inspect
import unittest

from oddfigures import errors
from tests.values import any_values

ATTRIBUTES = {
    "InvalidBase": ["value"], "InvalidDigits": ["value"], "InvalidBars": ["value"], "InvalidRow": ["row"],
    "InvalidText": ["text"], "InvalidNumber": ["number"], "InvalidLength": ["length"], "InvalidTerms": ["value"],
    "InvalidTerm": ["term"], "InvalidRows": ["rows"], "InvalidState": ["state"], "InvalidReading": ["reading"],
    "InvalidPrices": ["prices"], "InvalidLag": ["value"], "InvalidTable": ["value"],
    "InvalidRatio": ["top", "bottom"], "InvalidWord": ["word"], "InvalidName": ["name"], "InvalidLine": ["line"],
    "UnknownDigit": ["digit"], "UnknownName": ["name"], "UnlikeBases": ["value"], "UnlikeForms": ["one", "other"],
    "NameTaken": ["name"], "NotWritten": ["number"], "InUse": ["name"], "NotScheme": ["value"],
    "NotForm": ["value"], "NotMachine": ["value"], "TooMany": ["most"], "NothingToUndo": [],
}


class ErrorsTest(unittest.TestCase):
    def test_figure_error(self):
        self.assertEqual(errors.FigureError.__bases__, (ValueError,))
        self.assertEqual(str(errors.FigureError("a word")), "a word")
        with self.assertRaises(ValueError):
            raise errors.FigureError("a word")

    def test_each_is_directly_below_figure_error(self):
        for name in ATTRIBUTES:
            self.assertEqual(getattr(errors, name).__bases__, (errors.FigureError,), name)

    def test_each_is_a_class_of_its_own(self):
        for name in [*ATTRIBUTES, "FigureError"]:
            error_class = getattr(errors, name)
            self.assertEqual((error_class.__name__, error_class.__module__), (name, "oddfigures.errors"))

    def test_parameter_names(self):
        for name, attributes in ATTRIBUTES.items():
            parameters = inspect.signature(getattr(errors, name)).parameters
            self.assertEqual(list(parameters), attributes, name)
            for parameter in parameters.values():
                self.assertEqual(parameter.kind, parameter.POSITIONAL_OR_KEYWORD, name)
                self.assertEqual(parameter.default, parameter.empty, name)

    def test_any_value_is_kept_by_position_and_by_name(self):
        values = any_values()
        for name, attributes in ATTRIBUTES.items():
            error_class = getattr(errors, name)
            for at in range(len(values)):
                given = [values[at - k] for k in range(len(attributes))]
                by_position = error_class(*given)
                by_name = error_class(**dict(zip(attributes, given)))
                for attribute, value in zip(attributes, given):
                    self.assertIs(getattr(by_position, attribute), value)
                    self.assertIs(getattr(by_name, attribute), value)

    def test_two_arguments_in_their_order(self):
        ratio = errors.InvalidRatio(bottom=0, top=5)
        self.assertEqual((ratio.top, ratio.bottom), (5, 0))
        ratio = errors.InvalidRatio(5, 0)
        self.assertEqual((ratio.top, ratio.bottom), (5, 0))
        forms = errors.UnlikeForms("a", other="b")
        self.assertEqual((forms.one, forms.other), ("a", "b"))

    def test_they_are_raised_and_caught(self):
        for name, attributes in ATTRIBUTES.items():
            error_class = getattr(errors, name)
            with self.assertRaises(errors.FigureError) as caught:
                raise error_class(*attributes)
            self.assertEqual([getattr(caught.exception, attribute) for attribute in attributes], attributes)
            self.assertIsInstance(str(caught.exception), str)

    def test_a_kept_list_is_not_copied(self):
        given = [1, 2]
        error = errors.InvalidDigits(given)
        given.append(3)
        self.assertIs(error.value, given)
        self.assertEqual(error.value, [1, 2, 3])


if __name__ == "__main__":
    unittest.main()
