"""Schemes as text, and schemes that are read from text [24]."""

import itertools
import unittest

from oddfigures.errors import InvalidText
from oddfigures.schemes import Scheme, plain_scheme
from tests.values import BASES, any_values, signed


class TextTest(unittest.TestCase):
    def test_texts(self):
        for scheme, text in [
            (Scheme(2, [0]), "base 2; digits 0"),
            (Scheme(-6, [9, -9]), "base -6; digits -9 9"),
            (Scheme(3, [7, 0, -1]), "base 3; digits -1 0 7"),
            (Scheme(2, [0], bars=[(0, 0)]), "base 2; digits 0; bars 0 0"),
            (Scheme(2, [1, 0], bars=[(1, 0), (0, 1)]), "base 2; digits 0 1; bars 0 1, 1 0"),
            (signed(), "base 2; digits -1 0 1; bars -1 -1, -1 1, 1 -1, 1 1"),
            (Scheme(5, [-9, 9], bars=[(9, -9), (9, 9)]), "base 5; digits -9 9; bars 9 -9, 9 9"),
            (plain_scheme(-6), "base -6; digits 0 1 2 3 4 5"),
        ]:
            self.assertEqual(str(scheme), text)
            self.assertIs(str(scheme).__class__, str)
            self.assertEqual(Scheme.read(text), scheme)
            self.assertEqual(Scheme.read(text=text), scheme)
            self.assertIs(Scheme.read(text).__class__, Scheme)

    def test_there_and_back(self):
        every = list(itertools.product((-1, 0, 1), repeat=2))
        for base in BASES:
            for chosen in range(0, 2 ** 9, 7):
                bars = [every[k] for k in range(9) if chosen >> k & 1]
                scheme = Scheme(base, [-1, 0, 1], bars=bars)
                again = Scheme.read(str(scheme))
                self.assertEqual(again, scheme)
                self.assertEqual((again.base, again.digits, again.bars), (base, (-1, 0, 1), tuple(bars)))

    def test_six_digits_and_all_pairs_barred(self):
        digits = (-9, -8, -1, 0, 5, 9)
        pairs = list(itertools.product(digits, repeat=2))
        scheme = Scheme(4, digits, bars=pairs)
        bars = ", ".join([f"{left} {right}" for left, right in pairs])
        self.assertEqual(str(scheme), f"base 4; digits -9 -8 -1 0 5 9; bars {bars}")
        self.assertEqual(Scheme.read(str(scheme)), scheme)

    def test_the_examples(self):
        self.assertEqual(str(Scheme(-2, [1, 0], bars=[(1, 1), (0, 0)])), "base -2; digits 0 1; bars 0 0, 1 1")
        self.assertEqual(
            [
                Scheme.read("base 3; digits -1 0 7").free() == Scheme(3, (0, 7, -1)), str(-Scheme(3, [0, 1, 2])),
                plain_scheme(-3).digits,
            ],
            [True, "base 3; digits -2 -1 0", (0, 1, 2)],
        )


class WrongTextTest(unittest.TestCase):
    def assert_no_text(self, value):
        with self.assertRaises(InvalidText, msg=repr(value)) as caught:
            Scheme.read(value)
        self.assertIs(caught.exception.text, value)

    def test_any_values(self):
        for value in any_values():
            self.assert_no_text(value)

    def test_wrong_bases(self):
        for base in ("0", "1", "-1", "7", "-7", "10", "+2", "02", "-0", ".", "", " 2", "2 ", "2 3", "a", "--2", "2.0"):
            self.assert_no_text(f"base {base}; digits 0 1")
            self.assert_no_text(f"base {base}; digits 0 1; bars 0 0")

    def test_wrong_digits(self):
        for digits in (
            "1 0", "0 0", "0 1 1", "0 -1", "", ".", " 0", "0 ", "0  1", "0 10", "-10 0", "0 +1", "-0", "00", "0,1",
            "0, 1", "0 1 2 3 4 5 6", "a", "0;1", "0 1;", "0 1; ", "True", "0\n1", "0\n",
        ):
            self.assert_no_text(f"base 2; digits {digits}")

    def test_wrong_bars(self):
        for bars in (
            "1 1, 0 0", "0 0, 0 0", "0 1, 0 0", "0 0,1 1", "0 0,  1 1", "0 0, ", "0 0,", ", 0 0", "0 0 1 1", "0",
            "0 0 0",
            "", ".", "., .", "0 0; 1 1", "0 2", "2 2", "-1 0", "0 0, 2 0", "0 0 ", " 0 0", "0  0", "00 0", "-0 0",
            "+1 0",
            "(0, 0)", "0, 0", "a b", "0 0\n", "0 0; bars 1 1", "0 0; ", "0 0;",
        ):
            self.assert_no_text(f"base 2; digits 0 1; bars {bars}")

    def test_wrong_words_around(self):
        for text in (
            "base 2", "base 2; ", "base 2;", "digits 0 1", "base 2 digits 0 1", "base 2;digits 0 1",
            "base 2;  digits 0 1",
            "base 2; digits 0 1; bars", "base 2; digits 0 1; bars ", "base 2; digits 0 1;bars 0 0", "base 2; digits",
            "digits 0 1; base 2", "base 2; bars 0 0; digits 0 1", "base 2; digits 0 1; bars 0 0; bars 1 1",
            "Base 2; digits 0 1", "base 2; Digits 0 1", "base 2; digits 0 1; Bars 0 0", " base 2; digits 0 1",
            "base 2; digits 0 1 ", "base 2; digits 0 1\n", "\nbase 2; digits 0 1", "base 2, digits 0 1",
            "base  2; digits 0 1", "base2; digits 0 1", "base 2; digits0 1", "2; 0 1", "base 2; digits 0 1.",
            "base: 2; digits: 0 1", "base 2; digits 0 1; digits 0 1", "base 2; base 2; digits 0 1",
            "base base 2; digits 0",
            "base 2; digits 0 1; bars 0 0; ", "base 2; digits 0 1; digits 0 0", "base 2; digits 0 1; base 0 0",
            "base 2; digits 0 1; bars 0 0, bars 1 1", "base 2; digits digits 0 1", "scheme base 2; digits 0 1", "; ",
            ";",
            "; ; ", "base ; digits ", "base ; digits ; bars ",
        ):
            self.assert_no_text(text)

    def test_a_text_with_one_sign_more_or_less(self):
        text = "base -2; digits -1 0 1; bars -1 -1, 0 1"
        for at in range(len(text)):
            shorter = text[:at] + text[at + 1:]
            self.assert_no_text_but_its_own(shorter)
            for sign in " -;,.019a\n":
                self.assert_no_text_but_its_own(text[:at] + sign + text[at:])

    def assert_no_text_but_its_own(self, text):
        try:
            scheme = Scheme.read(text)
        except InvalidText as error:
            self.assertIs(error.text, text)
        else:
            self.assertEqual(str(scheme), text)

    def test_long_texts(self):
        for text in ("base 2; digits 0" + " 0" * 1900, "base 2; digits 0; bars 0 0" + ", 0 0" * 790, "; " * 2000):
            self.assert_no_text(text)


if __name__ == "__main__":
    unittest.main()
