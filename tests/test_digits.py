"""Integers, bases, digits, and rows as text [2], [13], [14]."""

import inspect
import itertools
import unittest

from oddfigures import digits
from oddfigures.digits import is_base, is_digit, is_integer, read_row, row_text
from oddfigures.errors import InvalidRow, InvalidText
from tests.values import BASES, DIGITS, GREAT, any_values, integers, lists, other_values, rows, strings


def is_plain_int(value):
    return value.__class__ is int


class NumbersTest(unittest.TestCase):
    def test_constants(self):
        self.assertEqual((digits.MOST_DIGITS, digits.GREATEST_DIGIT), (6, 9))

    def test_names_and_parameters(self):
        for function, names in [
            (is_integer, ["value", "low", "high"]), (is_base, ["value"]), (is_digit, ["value"]),
            (row_text, ["row"]), (read_row, ["text"]),
        ]:
            self.assertEqual(list(inspect.signature(function).parameters), names)
            self.assertEqual(function.__module__, "oddfigures.digits")
        self.assertIs(is_integer(high=3, low=1, value=3), True)
        self.assertIs(is_base(value=2), True)
        self.assertIs(is_digit(value=2), True)

    def test_is_integer_within_its_bounds(self):
        for value, low, high in itertools.product(range(-4, 5), repeat=3):
            self.assertIs(is_integer(value, low, high), low <= value <= high)

    def test_is_integer_with_great_numbers(self):
        self.assertIs(is_integer(GREAT, -GREAT, GREAT), True)
        self.assertIs(is_integer(-GREAT, -GREAT, GREAT), True)
        self.assertIs(is_integer(GREAT + 1, -GREAT, GREAT), False)
        self.assertIs(is_integer(-GREAT - 1, -GREAT, GREAT), False)
        self.assertIs(is_integer(0, GREAT, -GREAT), False)

    def test_is_integer_with_any_value(self):
        for value in any_values():
            self.assertIs(is_integer(value, -GREAT, GREAT), is_plain_int(value), repr(value))

    def test_true_and_false_are_no_integers(self):
        for value in (True, False):
            self.assertIs(is_integer(value, 0, 1), False)
            self.assertIs(is_digit(value), False)
            self.assertIs(is_base(value), False)

    def test_is_base(self):
        for value in integers():
            self.assertIs(is_base(value), value in BASES, value)
        for value in (0, 1, -1, 7, -7):
            self.assertIs(is_base(value), False)

    def test_is_digit(self):
        for value in integers():
            self.assertIs(is_digit(value), value in DIGITS, value)
        for value in (10, -10):
            self.assertIs(is_digit(value), False)

    def test_other_values_are_no_bases_and_no_digits(self):
        for value in other_values() + strings() + lists() + rows():
            self.assertIs(is_base(value), False, repr(value))
            self.assertIs(is_digit(value), False, repr(value))


class RowTextTest(unittest.TestCase):
    def test_texts(self):
        for row, text in [
            ((), "."), ((0,), "0"), ((9, -9), "9 -9"), ((1, 0, -1), "1 0 -1"), ((0, 0, 7), "0 0 7"),
            (tuple(DIGITS), "-9 -8 -7 -6 -5 -4 -3 -2 -1 0 1 2 3 4 5 6 7 8 9"),
        ]:
            self.assertEqual(row_text(row), text)
            self.assertEqual(row_text(row=row), text)
            self.assertEqual(read_row(text), row)
            self.assertEqual(read_row(text=text), row)

    def test_all_short_rows_there_and_back(self):
        for length in range(3):
            for row in itertools.product(DIGITS, repeat=length):
                text = row_text(row)
                self.assertEqual(text, " ".join([f"{digit}" for digit in row]) or ".")
                self.assertEqual(read_row(text), row)

    def test_a_row_of_400_digits(self):
        row = (tuple(DIGITS) * 22)[:400]
        self.assertEqual(len(row), 400)
        self.assertEqual(row_text(row).split(" "), [str(digit) for digit in row])
        self.assertEqual(read_row(row_text(row)), row)

    def test_the_kinds_of_results(self):
        self.assertIs(read_row("1 0").__class__, tuple)
        self.assertIs(read_row(".").__class__, tuple)
        self.assertIs(row_text((1, 0)).__class__, str)
        for digit in read_row("1 0 -9"):
            self.assertIs(digit.__class__, int)

    def test_row_text_of_other_values(self):
        for value in other_values() + integers() + strings() + lists():
            with self.assertRaises(InvalidRow, msg=repr(value)) as caught:
                row_text(value)
            self.assertIs(caught.exception.row, value)

    def test_row_text_looks_at_each_digit(self):
        for wrong in (True, False, None, 10, -10, GREAT, "1", "", (), [], (1,)):
            for at in range(3):
                row = (1, 0, -1)[:at] + (wrong,) + (1, 0, -1)[at:]
                with self.assertRaises(InvalidRow) as caught:
                    row_text(row)
                self.assertIs(caught.exception.row, row)

    def test_read_row_of_other_values(self):
        for value in other_values() + integers() + strings() + lists() + rows():
            with self.assertRaises(InvalidText, msg=repr(value)) as caught:
                read_row(value)
            self.assertIs(caught.exception.text, value)

    def test_read_row_reads_nothing_but_the_texts_of_rows(self):
        signs = "-+ .019"
        for length in range(5):
            for chosen in itertools.product(signs, repeat=length):
                text = "".join(chosen)
                if text == ".":
                    expected = ()
                elif all(word in ("0", "1", "9", "-1", "-9") for word in text.split(" ")):
                    expected = tuple(int(word) for word in text.split(" "))
                else:
                    with self.assertRaises(InvalidText, msg=text) as caught:
                        read_row(text)
                    self.assertIs(caught.exception.text, text)
                    continue
                self.assertEqual(read_row(text), expected)

    def test_numbers_out_of_bounds(self):
        for number in list(range(-120, -9)) + list(range(10, 120)):
            for text in (f"{number}", f"1 {number}", f"{number} 0"):
                with self.assertRaises(InvalidText):
                    read_row(text)


if __name__ == "__main__":
    unittest.main()
