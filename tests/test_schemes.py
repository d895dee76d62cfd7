"""Schemes as they are created, and their properties [3], [21]."""

import inspect
import itertools
import unittest

from oddfigures import schemes
from oddfigures.errors import InvalidBars, InvalidBase, InvalidDigits
from oddfigures.schemes import Scheme, plain_scheme
from tests.values import BASES, DIGITS, GREAT, any_values, integers, lists, other_values, rows, signed, strings


def no_bases():
    return [value for value in any_values() if value.__class__ is not int or value not in BASES]


class BaseTest(unittest.TestCase):
    def test_each_base(self):
        for base in BASES:
            self.assertEqual(Scheme(base, [0]).base, base)
            self.assertIs(Scheme(base, [0]).base.__class__, int)

    def test_no_base(self):
        for value in [0, 1, -1, 7, -7, True, False] + no_bases():
            with self.assertRaises(InvalidBase, msg=repr(value)) as caught:
                Scheme(value, [0, 1])
            self.assertIs(caught.exception.value, value)


class DigitsTest(unittest.TestCase):
    def test_in_ascending_order(self):
        for given, digits in [
            ([0], (0,)), ([9], (9,)), ([-9], (-9,)), ([1, 0], (0, 1)), ([9, -9, 0], (-9, 0, 9)),
            ([3, -1, 2, 0, -2, 1], (-2, -1, 0, 1, 2, 3)), ([-1, -2], (-2, -1)), ([8, 3, 5], (3, 5, 8)),
        ]:
            for order in itertools.permutations(given):
                self.assertEqual(Scheme(3, list(order)).digits, digits)
                self.assertEqual(Scheme(3, order).digits, digits)
            self.assertIs(Scheme(3, given).digits.__class__, tuple)
            self.assertEqual(len(Scheme(3, given)), len(digits))

    def test_each_digit_is_one(self):
        for digit in DIGITS:
            self.assertEqual(Scheme(2, [digit]).digits, (digit,))
            self.assertEqual(Scheme(-6, (digit, 0)).digits, tuple(sorted({digit, 0})))

    def test_a_digit_that_occurs_several_times(self):
        self.assertEqual(Scheme(2, [1, 0, 1, 1, 0]).digits, (0, 1))
        self.assertEqual(Scheme(2, [5] * 5000).digits, (5,))
        self.assertEqual(len(Scheme(2, [5] * 5000)), 1)
        self.assertEqual(Scheme(2, [0, 1, 2, 3, 4, 5, 5, 4, 3]).digits, (0, 1, 2, 3, 4, 5))

    def test_six_digits_and_seven(self):
        six = [-9, -3, 0, 2, 5, 9]
        self.assertEqual(Scheme(6, six).digits, tuple(six))
        for seventh in (-8, 1, 8):
            given = six + [seventh]
            with self.assertRaises(InvalidDigits) as caught:
                Scheme(6, given)
            self.assertIs(caught.exception.value, given)
        given = six + six
        self.assertEqual(len(Scheme(6, given)), 6)
        self.assertEqual(len(Scheme(6, given[:11])), 6)

    def test_no_digits(self):
        for value in [[], (), tuple(range(7)), list(range(-9, 10))]:
            with self.assertRaises(InvalidDigits) as caught:
                Scheme(2, value)
            self.assertIs(caught.exception.value, value)

    def test_no_list(self):
        for value in other_values() + integers() + strings():
            with self.assertRaises(InvalidDigits, msg=repr(value)) as caught:
                Scheme(2, value)
            self.assertIs(caught.exception.value, value)

    def test_an_item_that_is_no_digit(self):
        no_digits = other_values() + strings() + lists() + rows() + [10, -10, GREAT, -GREAT]
        for wrong in no_digits:
            for given in ([wrong], [0, wrong], [wrong, 0, 1], (0, wrong, 1), (0, 1, wrong)):
                with self.assertRaises(InvalidDigits, msg=repr(given)) as caught:
                    Scheme(2, given)
                self.assertIs(caught.exception.value, given)

    def test_the_example(self):
        with self.assertRaises(InvalidDigits) as caught:
            Scheme(2, [0, 1, 7, 10])
        self.assertEqual(caught.exception.value, [0, 1, 7, 10])


class BarsTest(unittest.TestCase):
    def test_no_bars(self):
        for scheme in (Scheme(2, [0, 1]), Scheme(2, [0, 1], bars=[]), Scheme(2, [0, 1], bars=())):
            self.assertEqual(scheme.bars, ())
            self.assertIs(scheme.bars.__class__, tuple)

    def test_in_ascending_order_and_each_once(self):
        pairs = [(1, 0), (0, 1), (-1, 1), (1, -1)]
        ordered = ((-1, 1), (0, 1), (1, -1), (1, 0))
        for order in itertools.permutations(pairs):
            self.assertEqual(Scheme(2, [-1, 0, 1], bars=list(order)).bars, ordered)
            self.assertEqual(Scheme(2, [-1, 0, 1], bars=order).bars, ordered)
            self.assertEqual(Scheme(2, [-1, 0, 1], bars=order + order).bars, ordered)
        self.assertEqual(Scheme(2, [0, 1], bars=[(1, 1)] * 5000).bars, ((1, 1),))

    def test_all_pairs_barred(self):
        digits = (-9, -2, -1, 0, 3, 9)
        pairs = list(itertools.product(digits, repeat=2))
        scheme = Scheme(-4, digits, bars=pairs[::-1])
        self.assertEqual(scheme.bars, tuple(pairs))
        self.assertEqual(len(scheme.bars), 36)

    def test_no_list(self):
        for value in other_values() + integers() + strings():
            with self.assertRaises(InvalidBars, msg=repr(value)) as caught:
                Scheme(2, [0, 1], bars=value)
            self.assertIs(caught.exception.value, value)

    def test_the_first_item_that_is_no_pair(self):
        no_pairs = other_values() + integers() + strings() + [
            (), (0,), (0, 1, 0), (0, 0, 0, 0), [0, 1], [], (0, 2), (2, 0), (2, 2), (-1, 0), (0, 10), (-10, 0),
            (0, True), (True, 0), (False, 1), (1, False), (None, 0), (0, None), ("0", "1"), (0, "1"), ((0,), (1,)),
            ((0, 1), (1, 0)), ((0, 1),), (GREAT, 0), (0, [1]), (0, plain_scheme(2)), (0, 1, None), "01",
        ]
        for wrong in no_pairs:
            for given in ([wrong], (wrong,), [(0, 0), wrong], [(1, 0), wrong, (9, 9)], [wrong, (0, 0), None, wrong]):
                with self.assertRaises(InvalidBars, msg=repr(given)) as caught:
                    Scheme(2, [1, 0], bars=given)
                self.assertIs(caught.exception.value, wrong)

    def test_a_pair_instead_of_a_list_of_pairs(self):
        with self.assertRaises(InvalidBars) as caught:
            Scheme(2, [0, 1], bars=(1, 0))
        self.assertEqual(caught.exception.value, 1)

    def test_bars_are_passed_by_name_only(self):
        with self.assertRaises(TypeError):
            Scheme(2, [0, 1], [(1, 1)])


class OrderOfErrorsTest(unittest.TestCase):
    def test_base_then_digits_then_bars(self):
        with self.assertRaises(InvalidBase):
            Scheme(1, [], bars=None)
        with self.assertRaises(InvalidBase):
            Scheme(None, [10], bars=[None])
        with self.assertRaises(InvalidDigits):
            Scheme(2, [], bars=None)
        with self.assertRaises(InvalidDigits):
            Scheme(2, [10], bars=[(10, 10)])
        with self.assertRaises(InvalidBars):
            Scheme(2, [1], bars=[(1, 1), (0, 1)])


class EqualityTest(unittest.TestCase):
    def test_equal_in_base_digits_and_bars(self):
        one = Scheme(2, [0, 1, -1], bars=[(1, 1), (0, 1)])
        other = Scheme(2, (-1, 1, 0, 0), bars=((0, 1), (1, 1), (0, 1)))
        self.assertIs(one == other, True)
        self.assertIs(one != other, False)
        self.assertIs(one == one, True)

    def test_unlike_in_one_of_them(self):
        one = Scheme(2, [0, 1], bars=[(1, 1)])
        for other in (
            Scheme(-2, [0, 1], bars=[(1, 1)]), Scheme(3, [0, 1], bars=[(1, 1)]), Scheme(2, [0, 1]),
            Scheme(2, [0, 1, 2], bars=[(1, 1)]), Scheme(2, [1], bars=[(1, 1)]), Scheme(2, [0, 1], bars=[(0, 0)]),
            Scheme(2, [-1, 1], bars=[(1, 1)]), Scheme(2, [0, 1], bars=[(0, 1), (1, 1)]),
        ):
            self.assertIs(one == other, False)
            self.assertIs(one != other, True)

    def test_equal_to_no_value_of_another_class(self):
        scheme = Scheme(2, [0, 1])
        for value in any_values() + [str(scheme), scheme.digits, (2, (0, 1), ()), scheme.base, len(scheme)]:
            if value.__class__ is not Scheme:
                self.assertIs(scheme == value, False, repr(value))
                self.assertIs(value == scheme, False, repr(value))
                self.assertIs(scheme != value, True, repr(value))


class CopiesTest(unittest.TestCase):
    def test_arguments_are_copied_and_not_modified(self):
        digits = [1, 0, 1, -1]
        bars = [(1, 1), (0, 1), (1, 1)]
        scheme = Scheme(2, digits, bars=bars)
        self.assertEqual((digits, bars), ([1, 0, 1, -1], [(1, 1), (0, 1), (1, 1)]))
        digits.append(5)
        bars.clear()
        self.assertEqual((scheme.digits, scheme.bars), ((-1, 0, 1), ((0, 1), (1, 1))))
        self.assertEqual(len(scheme), 3)

    def test_errors_keep_what_was_given(self):
        digits = [1, 0, 10, 0]
        with self.assertRaises(InvalidDigits) as caught:
            Scheme(2, digits)
        self.assertIs(caught.exception.value, digits)
        self.assertEqual(digits, [1, 0, 10, 0])
        item = [1, 1]
        with self.assertRaises(InvalidBars) as caught:
            Scheme(2, [1], bars=[item])
        self.assertIs(caught.exception.value, item)

    def test_equal_calls_give_equal_results(self):
        scheme = signed()
        for _ in range(2):
            self.assertEqual((scheme.base, scheme.digits, len(scheme)), (2, (-1, 0, 1), 3))
            self.assertEqual(scheme.bars, ((-1, -1), (-1, 1), (1, -1), (1, 1)))


class InterfaceTest(unittest.TestCase):
    def test_parameters(self):
        parameters = inspect.signature(Scheme).parameters
        self.assertEqual(list(parameters), ["base", "digits", "bars"])
        self.assertEqual(parameters["bars"].kind, inspect.Parameter.KEYWORD_ONLY)
        self.assertEqual(parameters["bars"].default, ())
        self.assertEqual(Scheme(bars=[(0, 0)], digits=[0], base=2), Scheme(2, [0], bars=[(0, 0)]))

    def test_properties(self):
        for name in ("base", "digits", "bars"):
            self.assertIsInstance(vars(Scheme)[name], property)

    def test_methods_of_the_class_itself(self):
        for name, names in [
            ("allows", ["left", "right"]), ("value_of", ["row"]), ("other_base", []), ("barred", ["bars"]),
            ("free", []), ("with_digits", ["digits"]), ("without", ["digit"]),
        ]:
            self.assertEqual(list(inspect.signature(vars(Scheme)[name]).parameters)[1:], names)
        for name in ("__eq__", "__len__", "__contains__", "__neg__", "__str__"):
            self.assertIn(name, vars(Scheme))
        self.assertIsInstance(vars(Scheme)["read"], classmethod)
        self.assertEqual(list(inspect.signature(Scheme.read).parameters), ["text"])
        self.assertEqual(list(inspect.signature(plain_scheme).parameters), ["base"])

    def test_defined_in_their_file(self):
        self.assertEqual(Scheme.__module__, "oddfigures.schemes")
        self.assertEqual(plain_scheme.__module__, "oddfigures.schemes")
        self.assertIs(schemes.Scheme, Scheme)


if __name__ == "__main__":
    unittest.main()
