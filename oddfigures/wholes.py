"""Whole sets of numbers: whether a scheme writes all numbers, the same ones as another, or sums of its own ones."""

from oddfigures.errors import InvalidWord, UnlikeBases
from oddfigures.forms import Form, failing
from oddfigures.places import check_scheme
from oddfigures.schemes import plain_scheme

# The factor for the plain scheme's numbers that makes those of each side of them.
FACTORS_OF_SIDES = {"up": 1, "down": -1}
# The factors of the terms whose values are asked for.
FACTORS_OF_WORDS = {"plus": (1, 1), "minus": (1, -1), "negative": (-1,), "double": (2,)}


def _check_word(words, value):
    """Raise InvalidWord unless any value is one of the words."""
    if value not in words:
        raise InvalidWord(value)


def _value_not_written(form):
    """Return a value of the form that its target does not write, or None if there is none."""
    rows = failing(form)
    if rows is None:
        return None
    return form.value_of(rows)


def unwritten(scheme, side):
    """Return an integer on this side of 0, or 0, that the scheme does not write; None if there is none."""
    check_scheme(scheme)
    _check_word(list(FACTORS_OF_SIDES), side)
    every = plain_scheme(abs(scheme.base))
    return _value_not_written(Form([(FACTORS_OF_SIDES[side], every)], scheme))


def writes_up(scheme):
    """Tell whether the scheme writes all integers from 0 on."""
    return unwritten(scheme, "up") is None


def writes_down(scheme):
    """Tell whether the scheme writes all integers up to 0."""
    return unwritten(scheme, "down") is None


def writes_all(scheme):
    """Tell whether the scheme writes all integers."""
    return writes_up(scheme) and writes_down(scheme)


def parting(one, other):
    """Return a number that exactly one of two schemes writes, or None if they write the same numbers."""
    check_scheme(one)
    check_scheme(other)
    if abs(other.base) != abs(one.base):
        raise UnlikeBases(other.base)
    number = _value_not_written(Form([(1, one)], other))
    if number is None:
        number = _value_not_written(Form([(1, other)], one))
    return number


def alike(one, other):
    """Tell whether two schemes write the same numbers."""
    return parting(one, other) is None


def breaking(scheme, word):
    """Return rows for whose values the word does not hold, or None if it holds for all numbers that are written."""
    check_scheme(scheme)
    _check_word(list(FACTORS_OF_WORDS), word)
    return failing(Form([(factor, scheme) for factor in FACTORS_OF_WORDS[word]], scheme))


def closed_under(scheme, word):
    """Tell whether the scheme also writes what the word makes of the numbers that it writes."""
    return breaking(scheme, word) is None
