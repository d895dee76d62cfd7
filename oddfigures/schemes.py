"""Schemes: a base, its digits, and the pairs of digits that must not stand side by side."""

from oddfigures.digits import MOST_DIGITS, are_digits, is_base, is_digit, read_row, row_text
from oddfigures.errors import (
    FigureError,
    InvalidBars,
    InvalidBase,
    InvalidDigits,
    InvalidRow,
    InvalidText,
    UnknownDigit,
)


def _is_one_of(digits, value):
    """Tell whether any value is one of these digits."""
    # True is in (0, 1) for Python, but it is no digit.
    return is_digit(value) and value in digits


def _is_pair(digits, value):
    """Tell whether any value is a tuple of two of these digits."""
    return isinstance(value, tuple) and len(value) == 2 and all([_is_one_of(digits, item) for item in value])


def _is_digit_list(value):
    """Tell whether any value is a list of digits, possibly empty."""
    return isinstance(value, (list, tuple)) and are_digits(value)


def _different_digits(digits):
    """Return the different digits of a list of 1 to 6 of them, in ascending order."""
    if not _is_digit_list(digits) or not 1 <= len(set(digits)) <= MOST_DIGITS:
        raise InvalidDigits(digits)
    return tuple(sorted(set(digits)))


def _different_pairs(digits, bars):
    """Return the different pairs of these digits in a list of them, in ascending order."""
    if not isinstance(bars, (list, tuple)):
        raise InvalidBars(bars)
    for item in bars:
        if not _is_pair(digits, item):
            raise InvalidBars(item)
    return tuple(sorted(set(bars)))


def _read_parts(text):
    """Return the base, the digits and the bars that a text tells, in whatever order it has them."""
    # Words that are missing or out of place need no check: read() writes the scheme anew and compares.
    parts = text.split("; ")
    if len(parts) not in (2, 3):
        raise InvalidText(text)
    bases = read_row(parts[0].removeprefix("base "))
    if len(bases) != 1:
        raise InvalidText(text)
    digits = read_row(parts[1].removeprefix("digits "))
    bars = [read_row(pair) for part in parts[2:] for pair in part.removeprefix("bars ").split(", ")]
    return bases[0], digits, bars


class Scheme:
    """A way to write whole numbers: a base, 1 to 6 digits, and barred pairs (left, right) of them."""

    def __init__(self, base, digits, *, bars=()):
        if not is_base(base):
            raise InvalidBase(base)
        self._base = base
        self._digits = _different_digits(digits)
        self._bars = _different_pairs(self._digits, bars)

    @property
    def base(self):
        """The base, an integer."""
        return self._base

    @property
    def digits(self):
        """The different digits, in ascending order."""
        return self._digits

    @property
    def bars(self):
        """The different barred pairs, in ascending order."""
        return self._bars

    def __eq__(self, other):
        return (
            isinstance(other, Scheme)
            and self._base == other._base
            and self._digits == other._digits
            and self._bars == other._bars
        )

    def __len__(self):
        return len(self._digits)

    def __str__(self):
        parts = [f"base {self._base}", f"digits {row_text(self._digits)}"]
        if self._bars != ():
            pairs = [row_text(pair) for pair in self._bars]
            parts.append("bars " + ", ".join(pairs))
        return "; ".join(parts)

    def __contains__(self, row):
        if not isinstance(row, tuple):
            return False
        # Behind the last digit stands nothing, which allows() takes as None.
        return all([self.allows(left, right) for left, right in zip(row, row[1:] + (None,))])

    def __neg__(self):
        digits = [-digit for digit in self._digits]
        bars = [(-left, -right) for left, right in self._bars]
        return Scheme(self._base, digits, bars=bars)

    def allows(self, left, right):
        """Tell whether left may stand left of right; right may be None, for nothing."""
        if not _is_one_of(self._digits, left):
            return False
        if right is None:
            return True
        return _is_one_of(self._digits, right) and (left, right) not in self._bars

    def value_of(self, row):
        """Return the value of a row."""
        if row not in self:
            raise InvalidRow(row)
        value = 0
        for digit in row:
            value = value * self._base + digit
        return value

    def other_base(self):
        """Return the scheme with the opposite base, the same digits and bars."""
        return Scheme(-self._base, self._digits, bars=self._bars)

    def barred(self, bars):
        """Return the scheme with these bars besides its own ones."""
        pairs = _different_pairs(self._digits, bars)
        return Scheme(self._base, self._digits, bars=self._bars + pairs)

    def free(self):
        """Return the scheme without bars."""
        return Scheme(self._base, self._digits)

    def with_digits(self, digits):
        """Return the scheme with these digits besides its own ones."""
        if not _is_digit_list(digits) or len(set(self._digits + tuple(digits))) > MOST_DIGITS:
            raise InvalidDigits(digits)
        return Scheme(self._base, self._digits + tuple(digits), bars=self._bars)

    def without(self, digit):
        """Return the scheme that lacks this digit and all bars with it."""
        if not _is_one_of(self._digits, digit):
            raise UnknownDigit(digit)
        digits = [other for other in self._digits if other != digit]
        bars = [pair for pair in self._bars if digit not in pair]
        return Scheme(self._base, digits, bars=bars)

    @classmethod
    def read(cls, text):
        """Return the Scheme whose text this is."""
        if not isinstance(text, str):
            raise InvalidText(text)
        try:
            base, digits, bars = _read_parts(text)
            scheme = cls(base, digits, bars=bars)
        except FigureError:
            raise InvalidText(text) from None
        # Digits or bars out of order, or told twice, and wrong words make a scheme with another text.
        if str(scheme) != text:
            raise InvalidText(text)
        return scheme


def plain_scheme(base):
    """Return the scheme with this base and the digits from 0 to one less than its absolute value."""
    if not is_base(base):
        raise InvalidBase(base)
    return Scheme(base, list(range(abs(base))))
