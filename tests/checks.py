"""Checks that the tests of several parts share."""

import inspect
import unittest

from oddfigures.errors import InvalidNumber, NotForm, NotScheme
from oddfigures.forms import Form
from oddfigures.schemes import Scheme
from tests.values import any_values


def no_schemes():
    return [value for value in any_values() if not isinstance(value, Scheme)]


def no_forms():
    return [value for value in any_values() if not isinstance(value, Form)]


def no_integers():
    return [value for value in any_values() if value.__class__ is not int]


def no_integers_within(low, high):
    return [value for value in any_values() if value.__class__ is not int or not low <= value <= high]


class Checks(unittest.TestCase):
    def check_error(self, error_class, attribute, wrong, call, *given):
        """Check that this call raises just this error, which keeps the very value."""
        with self.assertRaises(error_class, msg=repr((wrong, given))) as caught:
            call(*given)
        self.assertIs(caught.exception.__class__, error_class)
        self.assertIs(getattr(caught.exception, attribute), wrong)

    def check_no_scheme(self, function, *others):
        """Check NotScheme, which goes before the errors of all other arguments, right or wrong."""
        for wrong in no_schemes():
            self.check_error(NotScheme, "value", wrong, function, wrong, *others)
            self.check_error(NotScheme, "value", wrong, function, wrong, *[None for _ in others])
            self.check_error(NotScheme, "value", wrong, function, wrong, *["" for _ in others])

    def check_no_form(self, function, *others):
        """Check NotForm, which goes before the errors of all other arguments, right or wrong."""
        for wrong in no_forms():
            self.check_error(NotForm, "value", wrong, function, wrong, *others)
            self.check_error(NotForm, "value", wrong, function, wrong, *[None for _ in others])

    def check_no_number(self, function, scheme, *others):
        """Check InvalidNumber, which goes before the errors of the arguments behind the number."""
        for wrong in no_integers():
            self.check_error(InvalidNumber, "number", wrong, function, scheme, wrong, *others)
            self.check_error(InvalidNumber, "number", wrong, function, scheme, wrong, *["x" for _ in others])

    def check_integers(self, *found):
        for number in found:
            self.assertIs(number.__class__, int)

    def check_row(self, row):
        self.assertIs(row.__class__, tuple)
        self.check_integers(*row)

    def check_places(self, places):
        self.assertIs(places.__class__, list)
        for place in places:
            self.assertIs(place.__class__, tuple)
            self.assertEqual(len(place), 2)
            self.check_integers(*[item for item in place if item is not None])

    def check_interface(self, module, function, parameters):
        """Check the names and the defaults of parameters, given as in `(scheme, right=None)`, and the file."""
        self.assertEqual(str(inspect.signature(function)), parameters)
        self.assertEqual(function.__module__, module)
        for parameter in inspect.signature(function).parameters.values():
            self.assertEqual(parameter.kind, parameter.POSITIONAL_OR_KEYWORD)
