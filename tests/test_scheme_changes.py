"""Schemes that are made from others, and plain schemes [23]."""

import itertools
import unittest

from oddfigures.errors import InvalidBars, InvalidBase, InvalidDigits, UnknownDigit
from oddfigures.schemes import Scheme, plain_scheme
from tests.values import BASES, GREAT, any_values, integers, lists, other_values, rows, signed, strings


def told(scheme):
    return scheme.base, scheme.digits, scheme.bars


class OppositesTest(unittest.TestCase):
    def test_opposite_digits_and_bars(self):
        scheme = Scheme(-3, [-9, 0, 4], bars=[(0, 4), (-9, 0), (-9, -9)])
        self.assertEqual(told(-scheme), (-3, (-4, 0, 9), ((0, -4), (9, 0), (9, 9))))
        self.assertEqual(told(-Scheme(3, [0, 1, 2])), (3, (-2, -1, 0), ()))
        self.assertEqual(- -scheme, scheme)
        self.assertEqual(told(-signed()), told(signed()))

    def test_values_are_opposite(self):
        scheme = Scheme(-3, [-9, 0, 4], bars=[(0, 4), (-9, 0), (-9, -9)])
        for row in itertools.product((-9, 0, 4), repeat=3):
            opposite = tuple(-digit for digit in row)
            self.assertIs(opposite in -scheme, row in scheme)
            if row in scheme:
                self.assertEqual((-scheme).value_of(opposite), -scheme.value_of(row))

    def test_other_base(self):
        for base in BASES:
            scheme = Scheme(base, [3, 1], bars=[(3, 1)])
            self.assertEqual(told(scheme.other_base()), (-base, (1, 3), ((3, 1),)))
            self.assertEqual(scheme.other_base().other_base(), scheme)


class BarredTest(unittest.TestCase):
    def test_besides_its_own_ones(self):
        scheme = Scheme(2, [0, 1], bars=[(1, 1)])
        self.assertEqual(told(scheme.barred([(0, 1)])), (2, (0, 1), ((0, 1), (1, 1))))
        self.assertEqual(told(scheme.barred(((1, 1), (1, 0), (0, 0)))), (2, (0, 1), ((0, 0), (1, 0), (1, 1))))
        self.assertEqual(told(scheme.barred(bars=[(1, 1), (1, 1)])), told(scheme))
        self.assertEqual(told(scheme.barred([])), told(scheme))
        self.assertEqual(told(scheme.barred(())), told(scheme))
        every = list(itertools.product((0, 1), repeat=2))
        self.assertEqual(scheme.barred(every).bars, tuple(every))

    def test_no_list(self):
        for value in other_values() + integers() + strings():
            with self.assertRaises(InvalidBars, msg=repr(value)) as caught:
                signed().barred(value)
            self.assertIs(caught.exception.value, value)

    def test_the_first_item_that_is_no_pair(self):
        scheme = Scheme(2, [0, 1], bars=[(1, 1)])
        for wrong in other_values() + integers() + strings() + [
            (), (0,), (0, 1, 1), [0, 1], (0, 2), (2, 0), (0, True), (False, 0), (None, 0), ("0", "1"), (GREAT, 0),
        ]:
            for given in ([wrong], (wrong,), [(0, 0), wrong, (5, 5)], [wrong, None, (0, 0)]):
                with self.assertRaises(InvalidBars, msg=repr(given)) as caught:
                    scheme.barred(given)
                self.assertIs(caught.exception.value, wrong)
        self.assertEqual(scheme.bars, ((1, 1),))

    def test_free(self):
        self.assertEqual(told(signed().free()), (2, (-1, 0, 1), ()))
        self.assertEqual(told(Scheme(-5, [3]).free()), (-5, (3,), ()))


class WithDigitsTest(unittest.TestCase):
    def test_besides_its_own_ones(self):
        scheme = Scheme(-2, [0, 1], bars=[(1, 1)])
        self.assertEqual(told(scheme.with_digits([-9, 9])), (-2, (-9, 0, 1, 9), ((1, 1),)))
        self.assertEqual(told(scheme.with_digits((5, 1, 5))), (-2, (0, 1, 5), ((1, 1),)))
        self.assertEqual(told(scheme.with_digits(digits=[1])), told(scheme))
        self.assertEqual(told(scheme.with_digits([])), told(scheme))
        self.assertEqual(told(scheme.with_digits(())), told(scheme))

    def test_six_together_and_seven(self):
        scheme = Scheme(2, [0, 1])
        self.assertEqual(scheme.with_digits([2, 3, 4, 5]).digits, (0, 1, 2, 3, 4, 5))
        self.assertEqual(scheme.with_digits([0, 1, 2, 3, 4, 5]).digits, (0, 1, 2, 3, 4, 5))
        self.assertEqual(scheme.with_digits([5, 4, 3, 2, 1, 0] * 3).digits, (0, 1, 2, 3, 4, 5))
        for given in ([2, 3, 4, 5, 6], (2, 3, 4, 5, 6), [2, 3, 4, 5, 6, 7], list(range(-9, 10))):
            with self.assertRaises(InvalidDigits) as caught:
                scheme.with_digits(given)
            self.assertIs(caught.exception.value, given)
        six = Scheme(2, range_list(6))
        self.assertEqual(six.with_digits([]), six)
        self.assertEqual(six.with_digits([5, 0]), six)
        with self.assertRaises(InvalidDigits):
            six.with_digits([6])

    def test_no_list_of_digits(self):
        for value in other_values() + integers() + strings():
            with self.assertRaises(InvalidDigits, msg=repr(value)) as caught:
                Scheme(2, [0, 1]).with_digits(value)
            self.assertIs(caught.exception.value, value)
        for wrong in other_values() + strings() + lists() + rows() + [10, -10, GREAT]:
            for given in ([wrong], (2, wrong), [wrong, 0]):
                with self.assertRaises(InvalidDigits, msg=repr(given)) as caught:
                    Scheme(2, [0, 1]).with_digits(given)
                self.assertIs(caught.exception.value, given)


def range_list(many):
    return list(range(many))


class WithoutTest(unittest.TestCase):
    def test_lacks_the_digit_and_its_bars(self):
        scheme = Scheme(3, [-1, 0, 2], bars=[(-1, 0), (0, -1), (0, 0), (2, -1), (2, 2), (-1, -1)])
        self.assertEqual(told(scheme.without(-1)), (3, (0, 2), ((0, 0), (2, 2))))
        self.assertEqual(told(scheme.without(digit=0)), (3, (-1, 2), ((-1, -1), (2, -1), (2, 2))))
        self.assertEqual(told(scheme.without(2)), (3, (-1, 0), ((-1, -1), (-1, 0), (0, -1), (0, 0))))
        self.assertEqual(told(scheme.without(2).without(0)), (3, (-1,), ((-1, -1),)))

    def test_none_of_its_digits(self):
        scheme = Scheme(3, [0, 1])
        for value in any_values() + [2, -1, True, False]:
            if value.__class__ is int and value in (0, 1):
                continue
            with self.assertRaises(UnknownDigit, msg=repr(value)) as caught:
                scheme.without(value)
            self.assertIs(caught.exception.digit, value)

    def test_the_only_digit(self):
        for digit in (0, 7, -9):
            for bars in ([], [(digit, digit)]):
                scheme = Scheme(3, [digit], bars=bars)
                with self.assertRaises(InvalidDigits) as caught:
                    scheme.without(digit)
                self.assertEqual(caught.exception.value, [])
                self.assertIs(caught.exception.value.__class__, list)
                for other in (digit + 1, True, None, []):
                    with self.assertRaises(UnknownDigit) as caught:
                        scheme.without(other)
                    self.assertIs(caught.exception.digit, other)


class UnchangedTest(unittest.TestCase):
    def test_the_scheme_itself_stays_as_it_is(self):
        scheme = Scheme(3, [-1, 0, 2], bars=[(0, 2), (2, 2)])
        before = told(scheme)
        for changed in (
            -scheme, scheme.other_base(), scheme.barred([(0, 0)]), scheme.free(), scheme.with_digits([5]),
            scheme.without(2),
        ):
            self.assertIsInstance(changed, Scheme)
            self.assertNotEqual(changed, scheme)
            self.assertEqual(told(scheme), before)
        for call in (
            lambda: scheme.barred([(0, 0), (9, 9)]), lambda: scheme.with_digits([5, 10]), lambda: scheme.without(9),
        ):
            with self.assertRaises(ValueError):
                call()
            self.assertEqual(told(scheme), before)

    def test_arguments_are_copied_and_not_modified(self):
        scheme = Scheme(3, [0, 1])
        bars, digits = [(1, 1), (0, 1), (1, 1)], [7, 1, 5]
        barred, longer = scheme.barred(bars), scheme.with_digits(digits)
        self.assertEqual((bars, digits), ([(1, 1), (0, 1), (1, 1)], [7, 1, 5]))
        bars.clear()
        digits.append(9)
        self.assertEqual((barred.bars, longer.digits), (((0, 1), (1, 1)), (0, 1, 5, 7)))


class PlainSchemeTest(unittest.TestCase):
    def test_each_base(self):
        for base, digits in [
            (2, (0, 1)), (3, (0, 1, 2)), (4, (0, 1, 2, 3)), (5, (0, 1, 2, 3, 4)), (6, (0, 1, 2, 3, 4, 5)),
        ]:
            self.assertEqual(told(plain_scheme(base)), (base, digits, ()))
            self.assertEqual(told(plain_scheme(base=-base)), (-base, digits, ()))

    def test_no_base(self):
        for value in any_values():
            if value.__class__ is int and value in BASES:
                continue
            with self.assertRaises(InvalidBase, msg=repr(value)) as caught:
                plain_scheme(value)
            self.assertIs(caught.exception.value, value)


if __name__ == "__main__":
    unittest.main()
