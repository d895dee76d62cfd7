"""Terms, and the readings of their rows: the digits of all rows, place by place from the low end."""

from oddfigures.digits import is_integer
from oddfigures.errors import InvalidTerm, InvalidTerms

# Stands for the digit of a row that has no more.
END = "end"
GREATEST_FACTOR = 2
MOST_TERMS = 2


def is_factor(value):
    """Tell whether any value is a factor of a term."""
    return is_integer(value, -GREATEST_FACTOR, GREATEST_FACTOR) and value != 0


def check_terms(value, fits):
    """Raise InvalidTerms or InvalidTerm unless any value is a list of one or two tuples of a factor and what fits."""
    if not isinstance(value, (list, tuple)) or not 1 <= len(value) <= MOST_TERMS:
        raise InvalidTerms(value)
    for item in value:
        if not isinstance(item, tuple) or len(item) != 2 or not is_factor(item[0]) or not fits(item[1]):
            raise InvalidTerm(item)


def is_item(scheme, value):
    """Tell whether any value may be the item of a reading: a digit of the scheme or END."""
    return value == END or scheme.allows(value, None)


def is_reading(terms, value):
    """Tell whether any value is a tuple with an item for each term."""
    if not isinstance(value, tuple) or len(value) != len(terms):
        return False
    return all([is_item(scheme, item) for (_, scheme), item in zip(terms, value)])


def are_lasts(terms, value):
    """Tell whether any value is a tuple with None or an item for each term."""
    if not isinstance(value, tuple) or len(value) != len(terms):
        return False
    return all([last is None or is_item(scheme, last) for (_, scheme), last in zip(terms, value)])


def are_signs(terms, value):
    """Tell whether any value is a tuple with 1 or -1 for each term."""
    if not isinstance(value, tuple) or len(value) != len(terms):
        return False
    return all([is_integer(sign, -1, 1) and sign != 0 for sign in value])


def _items_behind(scheme, last):
    """Return the items of a term that may follow the one that was read last, in order."""
    # No digit stands left of END.
    return [digit for digit in scheme.digits if scheme.allows(digit, last)] + [END]


def readings_behind(terms, lasts):
    """Return the readings that may follow these lasts, in order."""
    readings = [()]
    for (_, scheme), last in zip(terms, lasts):
        items = _items_behind(scheme, last)
        readings = [reading + (item,) for reading in readings for item in items]
    # Where all rows have ended, nothing is read.
    return [reading for reading in readings if any([item != END for item in reading])]


def may_follow(terms, lasts, value):
    """Tell whether any value is a reading that may follow these lasts."""
    return is_reading(terms, value) and value in readings_behind(terms, lasts)


def total_of(terms, signs, reading):
    """Return what the digits of a reading come to."""
    return sum([sign * factor * item for (factor, _), sign, item in zip(terms, signs, reading) if item != END])


def signs_behind(terms, base, signs, reading):
    """Return the signs behind a reading, for a target with this base."""
    behind = []
    for (_, scheme), sign, item in zip(terms, signs, reading):
        if item == END:
            behind.append(1)
        else:
            behind.append(sign if scheme.base == base else -sign)
    return tuple(behind)
