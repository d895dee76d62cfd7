"""Integers, bases and digits, and rows of digits as text."""

from oddfigures.errors import InvalidRow, InvalidText

MOST_DIGITS = 6
GREATEST_DIGIT = 9
GREATEST_BASE = 6
EMPTY_TEXT = "."


def is_whole(value):
    """Tell whether any value is an integer, of whatever size."""
    # True and False are ints for Python, but no integers here.
    return isinstance(value, int) and not isinstance(value, bool)


def is_integer(value, low, high):
    """Tell whether any value is an integer from low to high."""
    return is_whole(value) and low <= value <= high


def is_base(value):
    """Tell whether any value is a base."""
    return is_integer(value, 2, GREATEST_BASE) or is_integer(value, -GREATEST_BASE, -2)


def is_digit(value):
    """Tell whether any value is a digit."""
    return is_integer(value, -GREATEST_DIGIT, GREATEST_DIGIT)


def are_digits(items):
    """Tell whether all items of a list or a tuple are digits."""
    return all([is_digit(item) for item in items])


def row_text(row):
    """Return the digits of a row as text, the empty row as a dot."""
    if not isinstance(row, tuple) or not are_digits(row):
        raise InvalidRow(row)
    if row == ():
        return EMPTY_TEXT
    return " ".join([str(digit) for digit in row])


def read_row(text):
    """Return the tuple of digits whose text this is."""
    if not isinstance(text, str):
        raise InvalidText(text)
    if text == EMPTY_TEXT:
        return ()
    # Only the very texts that row_text writes are in here: no -0, no +1, no 01.
    digits = {str(digit): digit for digit in range(-GREATEST_DIGIT, GREATEST_DIGIT + 1)}
    words = text.split(" ")
    if not all([word in digits for word in words]):
        raise InvalidText(text)
    return tuple([digits[word] for word in words])
