"""Which rows a scheme has, and their values [3], [22]."""

import itertools
import unittest

from oddfigures.errors import InvalidRow
from oddfigures.schemes import Scheme, plain_scheme
from tests.values import BASES, any_values, integers, lists, other_values, signed, strings


def some_schemes():
    every = list(itertools.product((-2, 0, 9), repeat=2))
    return [
        signed(), Scheme(2, [-1, 0, 1]), plain_scheme(-2), Scheme(6, [5]), Scheme(-3, [0], bars=[(0, 0)]),
        Scheme(-6, [-9, 9, 1], bars=[(9, -9), (1, 9)]), Scheme(5, [-2, 0, 9], bars=every),
        Scheme(3, [1, 0, -1, 7], bars=[(0, 7), (7, 0), (-1, -1)]), Scheme(4, [0, 1, 2], bars=[(0, 0), (1, 0), (2, 1)]),
    ]


def is_row(scheme, row):
    """What the document calls a row, told anew."""
    if any(digit not in scheme.digits for digit in row):
        return False
    return not any((row[k], row[k + 1]) in scheme.bars for k in range(len(row) - 1))


def value(base, row):
    return sum(row[k] * base ** (len(row) - 1 - k) for k in range(len(row)))


class AllowsTest(unittest.TestCase):
    def test_all_pairs_of_digits(self):
        for scheme in some_schemes():
            for left, right in itertools.product(range(-10, 11), repeat=2):
                both = left in scheme.digits and right in scheme.digits
                self.assertIs(scheme.allows(left, right), both and (left, right) not in scheme.bars)

    def test_nothing_on_the_right(self):
        for scheme in some_schemes():
            for left in range(-10, 11):
                self.assertIs(scheme.allows(left, None), left in scheme.digits)

    def test_nothing_on_the_left(self):
        for scheme in some_schemes():
            for right in (None, 0, 1, -1, 9):
                self.assertIs(scheme.allows(None, right), False)

    def test_other_values(self):
        scheme = Scheme(2, [0, 1])
        for wrong in any_values():
            if wrong.__class__ is int and wrong in (0, 1):
                continue
            for digit in (0, 1):
                self.assertIs(scheme.allows(wrong, digit), False, repr(wrong))
                self.assertIs(scheme.allows(digit, wrong), wrong is None, repr(wrong))
            self.assertIs(scheme.allows(wrong, wrong), False, repr(wrong))
            self.assertIs(scheme.allows(wrong, None), False, repr(wrong))

    def test_left_and_right_are_not_the_same(self):
        scheme = Scheme(2, [0, 1], bars=[(1, 0)])
        self.assertEqual([scheme.allows(1, 0), scheme.allows(0, 1)], [False, True])
        self.assertEqual([scheme.allows(right=1, left=0), scheme.allows(right=0, left=1)], [True, False])


class RowsTest(unittest.TestCase):
    def test_all_short_tuples(self):
        for scheme in some_schemes():
            for length in range(4):
                for row in itertools.product((*scheme.digits, 4, -1), repeat=length):
                    self.assertIs(row in scheme, is_row(scheme, row), (str(scheme), row))

    def test_the_empty_row(self):
        for scheme in some_schemes():
            self.assertIs(() in scheme, True)
            self.assertEqual(scheme.value_of(()), 0)

    def test_a_bar_at_each_place(self):
        scheme = Scheme(2, [0, 1], bars=[(1, 1)])
        for at in range(399):
            row = (0,) * at + (1, 1) + (0,) * (398 - at)
            self.assertEqual(len(row), 400)
            self.assertIs(row in scheme, False)
        self.assertIs((1, 0) * 200 in scheme, True)

    def test_a_foreign_digit_at_each_place(self):
        scheme = Scheme(2, [0, 1])
        for wrong in (2, -1, True, False, None, "0", (), (0,), "end", [0], 10):
            for at in range(4):
                row = (0, 1, 0)[:at] + (wrong,) + (0, 1, 0)[at:]
                self.assertIs(row in scheme, False, row)
                with self.assertRaises(InvalidRow) as caught:
                    scheme.value_of(row)
                self.assertIs(caught.exception.row, row)

    def test_other_values(self):
        for scheme in some_schemes():
            for wrong in other_values() + integers() + strings() + lists():
                self.assertIs(wrong in scheme, False, repr(wrong))
                with self.assertRaises(InvalidRow, msg=repr(wrong)) as caught:
                    scheme.value_of(wrong)
                self.assertIs(caught.exception.row, wrong)

    def test_a_list_is_no_row(self):
        scheme = Scheme(2, [0, 1])
        for wrong in ([], [0], [1, 0]):
            self.assertIs(wrong in scheme, False)
            self.assertIs(tuple(wrong) in scheme, True)


class ValueTest(unittest.TestCase):
    def test_all_short_rows(self):
        for scheme in some_schemes():
            for length in range(5):
                for row in itertools.product(scheme.digits, repeat=length):
                    if is_row(scheme, row):
                        self.assertEqual(scheme.value_of(row), value(scheme.base, row))
                        self.assertEqual(scheme.value_of(row=row), value(scheme.base, row))
                    else:
                        with self.assertRaises(InvalidRow) as caught:
                            scheme.value_of(row)
                        self.assertIs(caught.exception.row, row)

    def test_each_base(self):
        for base in BASES:
            scheme = Scheme(base, [-9, -1, 0, 1, 9])
            self.assertEqual(scheme.value_of((1, 0)), base)
            self.assertEqual(scheme.value_of((9, -1, 1)), 9 * base * base - base + 1)
            self.assertEqual(scheme.value_of((-9,)), -9)
            self.assertEqual(scheme.value_of((0, 0, 0, 1)), 1)

    def test_rows_of_400_digits(self):
        for base in BASES:
            scheme = Scheme(base, [-9, 0, 4, 9])
            for row in ((9,) * 400, (-9,) * 400, (9, -9) * 200, (4,) + (0,) * 399, (0,) * 399 + (4,)):
                self.assertEqual(scheme.value_of(row), value(base, row))
        self.assertEqual(plain_scheme(2).value_of((1,) * 400), 2 ** 400 - 1)

    def test_the_example(self):
        scheme = Scheme(2, [-1, 0, 1], bars=[(-1, -1), (-1, 1), (1, -1), (1, 1)])
        self.assertEqual(
            [
                scheme.value_of((1, 0, -1)), (1, 0, -1) in scheme, (1, 1) in scheme, scheme.allows(1, 0),
                len(scheme), scheme.bars[0],
            ],
            [3, True, False, True, 3, (-1, -1)],
        )


if __name__ == "__main__":
    unittest.main()
