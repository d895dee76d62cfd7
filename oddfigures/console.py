"""A console: lines of words that do something with a book, or ask something, and are answered."""

from oddfigures.book import Book, is_name
from oddfigures.counts import plain_count
from oddfigures.digits import read_row, row_text
from oddfigures.errors import FigureError, InvalidLine, InvalidText
from oddfigures.places import writing
from oddfigures.schemes import Scheme
from oddfigures.wholes import alike, closed_under, writes_all

MOST_NUMERALS = 100
FACTORS = {"-2": -2, "-1": -1, "1": 1, "2": 2}
DONE = "done"
# Python itself writes numbers of any size only up to some thousands of figures.
FIGURES_AT_ONCE = 64
GREAT = 10 ** 64


def _read_name(text):
    """Return the name that a text is, or None."""
    return text if is_name(text) else None


def _read_number(text):
    """Return the integer that a text tells in decimal notation, or None."""
    numerals = text.removeprefix("-")
    if not numerals.isdecimal() or len(numerals) > MOST_NUMERALS or str(int(text)) != text:
        return None
    return int(text)


def _read_row(text):
    """Return the row whose text it is, or None."""
    try:
        return read_row(text)
    except InvalidText:
        return None


def _read_terms(text):
    """Return the terms that one or two factors and names tell, or None."""
    words = text.split(" ")
    factors = words[::2]
    names = words[1::2]
    if len(words) not in (2, 4) or not all([factor in FACTORS for factor in factors]):
        return None
    if not all([is_name(name) for name in names]):
        return None
    return [(FACTORS[factor], name) for factor, name in zip(factors, names)]


def _read_words(text):
    """Return a text of one or more words of any kind, or None if there are none."""
    return None if text == "" else text


# How a word, or the words up to the end of the line, are read.
ONE_WORD = {"NAME": _read_name, "NUMBER": _read_number, "WORD": _read_words}
ALL_WORDS = {"ROW": _read_row, "TERMS": _read_terms, "TEXT": _read_words}


def _number_text(number):
    """Return a number in decimal notation, however great it is."""
    pieces = []
    rest = abs(number)
    while rest >= GREAT:
        pieces.append(str(rest % GREAT).zfill(FIGURES_AT_ONCE))
        rest = rest // GREAT
    pieces.append(str(rest))
    return "".join(["-" if number < 0 else ""] + pieces[::-1])


def _yes_or_no(flag):
    """Return the answer to a question."""
    return "yes" if flag else "no"


def _do_scheme(book, name, text):
    """Keep the scheme that a text tells."""
    book.keep(name, Scheme.read(text))


def _do_put(book, name, where, number):
    """Put a number."""
    book.put(name, where, number)


def _do_lay(book, name, where, row):
    """Lay a row."""
    book.lay(name, where, row)


def _do_move(book, name, where):
    """Move an entry to another scheme."""
    book.move(name, where)


def _do_sum(book, name, where, terms):
    """Put a sum of multiples of entries."""
    book.reckon(name, where, terms)


def _do_drop(book, name):
    """Drop a scheme or an entry."""
    book.drop(name)


def _do_undo(book):
    """Take back the last deed."""
    book.undo()


def _tell_show(book, name):
    """Return the text of a scheme, or of the row of an entry."""
    if name in book.schemes():
        return str(book.scheme_of(name))
    return row_text(book.row_of(name))


def _tell_value(book, name):
    """Return the number of an entry."""
    return _number_text(book.number_of(name))


def _tell_home(book, name):
    """Return the name of the scheme of an entry."""
    return book.home(name)


def _tell_names(book):
    """Return all names."""
    return " ".join(sorted(book.schemes() + book.entries())) or "-"


def _tell_write(book, where, number):
    """Return the row of a number."""
    row = writing(book.scheme_of(where), number)
    return "none" if row is None else row_text(row)


def _tell_count(book, where, number):
    """Return how many plain rows a number has."""
    many = plain_count(book.scheme_of(where), number)
    return "endless" if many is None else _number_text(many)


def _tell_all(book, where):
    """Tell whether a scheme writes all integers."""
    return _yes_or_no(writes_all(book.scheme_of(where)))


def _tell_alike(book, one, other):
    """Tell whether two schemes write the same numbers."""
    return _yes_or_no(alike(book.scheme_of(one), book.scheme_of(other)))


def _tell_closed(book, where, word):
    """Tell whether a scheme also writes what a word makes of its numbers."""
    return _yes_or_no(closed_under(book.scheme_of(where), word))


def _tell_surely(book, where, terms):
    """Tell whether a scheme surely writes a sum of multiples of entries."""
    return _yes_or_no(book.surely(where, terms))


# What follows the first word of each line, and what is then to be done.
SHAPES = {
    "scheme": ("NAME", "TEXT"),
    "put": ("NAME", "NAME", "NUMBER"),
    "lay": ("NAME", "NAME", "ROW"),
    "move": ("NAME", "NAME"),
    "sum": ("NAME", "NAME", "TERMS"),
    "drop": ("NAME",),
    "undo": (),
    "show": ("NAME",),
    "value": ("NAME",),
    "home": ("NAME",),
    "names": (),
    "write": ("NAME", "NUMBER"),
    "count": ("NAME", "NUMBER"),
    "all": ("NAME",),
    "alike": ("NAME", "NAME"),
    "closed": ("NAME", "WORD"),
    "surely": ("NAME", "TERMS"),
}
ACTIONS = {
    "scheme": _do_scheme,
    "put": _do_put,
    "lay": _do_lay,
    "move": _do_move,
    "sum": _do_sum,
    "drop": _do_drop,
    "undo": _do_undo,
    "show": _tell_show,
    "value": _tell_value,
    "home": _tell_home,
    "names": _tell_names,
    "write": _tell_write,
    "count": _tell_count,
    "all": _tell_all,
    "alike": _tell_alike,
    "closed": _tell_closed,
    "surely": _tell_surely,
}


def _arguments(line, shape, words):
    """Return what the words behind the first one tell, by the shape of the line."""
    found = []
    left = words
    for kind in shape:
        if kind in ALL_WORDS:
            reader = ALL_WORDS[kind]
            value = reader(" ".join(left))
            left = []
        else:
            reader = ONE_WORD[kind]
            value = reader(" ".join(left[:1]))
            left = left[1:]
        if value is None:
            raise InvalidLine(line)
        found.append(value)
    if left:
        raise InvalidLine(line)
    return found


def _answer(book, line):
    """Do what a line says, and return the answer."""
    if not isinstance(line, str):
        raise InvalidLine(line)
    words = line.split(" ")
    if "" in words or words[0] not in SHAPES:
        raise InvalidLine(line)
    values = _arguments(line, SHAPES[words[0]], words[1:])
    action = ACTIONS[words[0]]
    answer = action(book, *values)
    # What asks nothing returns nothing.
    return DONE if answer is None else answer


class Console:
    """Keeps a book, and answers lines about it."""

    def __init__(self):
        self._book = Book()

    def say(self, line):
        """Do what a line says, and return the answer."""
        try:
            return _answer(self._book, line)
        except FigureError as error:
            return f"! {error.class_name}"

    def said(self, lines):
        """Say lines one behind the other, and return the list of the answers."""
        return [self.say(line) for line in lines]

    def book(self):
        """Return the book, itself."""
        return self._book
