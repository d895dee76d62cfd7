"""A slow book, which copies all that it has before each deed; and all that a book tells."""

from oddfigures.errors import (
    FigureError, InUse, InvalidName, InvalidNumber, InvalidRow, InvalidTerm, InvalidTerms, NameTaken, NotScheme,
    NothingToUndo, NotWritten, UnknownName,
)
from oddfigures.places import writing
from oddfigures.schemes import Scheme
from tests.reference import is_open, is_row, value


def is_name(word):
    return isinstance(word, str) and 1 <= len(word) <= 8 and set(word) <= set("abcdefghijklmnopqrstuvwxyz")


def is_factor(factor):
    return factor.__class__ is int and factor in (-2, -1, 1, 2)


class ModelBook:
    """What [121], [122] and [123] say, with a list of all that there was before each deed."""

    def __init__(self):
        self.schemes = {}
        self.entries = {}
        self.before = []

    def saved(self):
        return dict(self.schemes), dict(self.entries), list(self.before)

    def put_back(self, saved):
        self.schemes, self.entries, self.before = dict(saved[0]), dict(saved[1]), list(saved[2])

    def need(self, holds, error):
        if not holds:
            raise error

    def scheme(self, where):
        self.need(isinstance(where, str) and where in self.schemes, UnknownName(where))
        return self.schemes[where]

    def entry(self, name):
        self.need(isinstance(name, str) and name in self.entries, UnknownName(name))
        return self.entries[name]

    def free_for_entries(self, name):
        self.need(is_name(name), InvalidName(name))
        self.need(name not in self.schemes, NameTaken(name))

    def enter(self, name, where, number, row):
        self.before.append((dict(self.schemes), dict(self.entries)))
        self.entries[name] = (where, number, row)

    def enter_number(self, name, where, number):
        row = writing(self.scheme(where), number)
        self.need(row is not None, NotWritten(number))
        self.enter(name, where, number, row)

    def keep(self, name, scheme):
        self.need(is_name(name), InvalidName(name))
        self.need(name not in self.schemes and name not in self.entries, NameTaken(name))
        self.need(isinstance(scheme, Scheme), NotScheme(scheme))
        self.before.append((dict(self.schemes), dict(self.entries)))
        self.schemes[name] = scheme

    def put(self, name, where, number):
        self.free_for_entries(name)
        self.scheme(where)
        self.need(number.__class__ is int, InvalidNumber(number))
        self.enter_number(name, where, number)

    def lay(self, name, where, row):
        self.free_for_entries(name)
        scheme = self.scheme(where)
        self.need(row.__class__ is tuple and all(digit.__class__ is int for digit in row), InvalidRow(row))
        self.need(is_row(scheme, row), InvalidRow(row))
        self.enter(name, where, value(scheme.base, row), row)

    def move(self, name, where):
        number = self.entry(name)[1]
        self.enter_number(name, where, number)

    def reckon(self, name, where, terms):
        self.free_for_entries(name)
        self.scheme(where)
        self.need(isinstance(terms, (list, tuple)) and len(terms) in (1, 2), InvalidTerms(terms))
        for term in terms:
            fits = term.__class__ is tuple and len(term) == 2 and is_factor(term[0]) and is_name(term[1])
            self.need(fits, InvalidTerm(term))
        self.enter_number(name, where, sum(factor * self.entry(entry)[1] for factor, entry in terms))

    def drop(self, name):
        self.need(isinstance(name, str) and (name in self.schemes or name in self.entries), UnknownName(name))
        self.need(all(where != name for where, _, _ in self.entries.values()), InUse(name))
        self.before.append((dict(self.schemes), dict(self.entries)))
        self.schemes.pop(name, None)
        self.entries.pop(name, None)

    def undo(self):
        self.need(self.before != [], NothingToUndo())
        schemes, entries = self.before.pop()
        self.schemes, self.entries = dict(schemes), dict(entries)

    def told(self):
        """What a book that keeps the same tells."""
        return {
            "deeds": len(self.before), "schemes": sorted(self.schemes), "entries": sorted(self.entries),
            "scheme_of": {name: self.schemes[name] for name in sorted(self.schemes)},
            "entry": {name: self.entries[name] for name in sorted(self.entries)},
            "writers": {
                name: [where for where in sorted(self.schemes) if is_open(self.schemes[where], (number, None))]
                for name, (_, number, _) in self.entries.items()
            },
        }


def all_told(book):
    """All that a book tells of what it keeps."""
    entries = book.entries()
    return {
        "deeds": book.deeds(), "schemes": book.schemes(), "entries": entries,
        "scheme_of": {name: book.scheme_of(name) for name in book.schemes()},
        "entry": {name: (book.home(name), book.number_of(name), book.row_of(name)) for name in entries},
        "writers": {name: book.writers(name) for name in entries},
    }


def outcome(call, *given):
    """What a call returns, or the class and the attributes of the error that it raises."""
    try:
        return call(*given)
    except FigureError as error:
        return error.__class__, {name: held for name, held in vars(error).items() if name != "class_name"}
