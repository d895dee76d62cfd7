"""Books: schemes and numbers under names, with deeds that can be taken back."""

from oddfigures.errors import InUse, InvalidName, NameTaken, NothingToUndo, NotWritten, UnknownName
from oddfigures.forms import Form, always_written
from oddfigures.places import check_scheme, is_written, writing
from oddfigures.terms import check_terms

MOST_LETTERS = 8


def is_name(value):
    """Tell whether any value is a name."""
    if not isinstance(value, str) or not 1 <= len(value) <= MOST_LETTERS:
        return False
    return all(["a" <= letter <= "z" for letter in value])


def _is_key(table, value):
    """Tell whether any value is one of the names in a table."""
    return isinstance(value, str) and value in table


def _assign(table, name, worth):
    """Give a name what it is worth in a table; None for nothing."""
    if worth is None:
        table.pop(name, None)
    else:
        table[name] = worth


class Pages:
    """What a book keeps under names, and what each deed in force has replaced.

    An entry is a tuple (home, number, row).
    """

    def __init__(self, kept, entered, replaced):
        self.kept = dict(kept)
        self.entered = dict(entered)
        self.replaced = list(replaced)

    def _assign_both(self, name, scheme, entry):
        """Let a name mean this scheme, this entry, or nothing."""
        _assign(self.kept, name, scheme)
        _assign(self.entered, name, entry)

    def rewrite(self, name, scheme, entry):
        """Let a name mean this scheme, this entry, or nothing, as one deed."""
        self.replaced.append((name, self.kept.get(name), self.entered.get(name)))
        self._assign_both(name, scheme, entry)

    def take_back(self):
        """Let the name of the last deed mean what it meant before it."""
        name, scheme, entry = self.replaced.pop()
        self._assign_both(name, scheme, entry)


class Block:
    """A part of what is done with a book: if it ends with an exception, the book is put back."""

    def __init__(self, book):
        self._book = book
        self._saved = None

    def __enter__(self):
        self._saved = self._book.copied_pages()
        return self

    def __exit__(self, kind, value, trace):
        if kind is not None:
            self.put_back()

    def put_back(self):
        """Let the book be as it was when the block was entered."""
        book = self._book
        book.pages = self._saved


class Book:
    """Schemes, and numbers that are written in them, under names."""

    def __init__(self):
        self.pages = Pages({}, {}, [])

    def __eq__(self, other):
        return (
            isinstance(other, Book)
            and self.pages.kept == other.pages.kept
            and self.pages.entered == other.pages.entered
        )

    def __contains__(self, name):
        return _is_key(self.pages.kept, name) or _is_key(self.pages.entered, name)

    def copied_pages(self):
        """Return new pages that say what those of the book say."""
        return Pages(self.pages.kept, self.pages.entered, self.pages.replaced)

    def keep(self, name, scheme):
        """Keep a scheme under a name."""
        _check_name(name)
        if name in self:
            raise NameTaken(name)
        check_scheme(scheme)
        self.pages.rewrite(name, scheme, None)

    def put(self, name, where, number):
        """Keep a number under a name, with the row that the scheme with the name where writes for it."""
        self._check_entry_name(name)
        self._enter(name, where, number, writing(self.scheme_of(where), number))

    def lay(self, name, where, row):
        """Keep a row of the scheme with the name where under a name, with its value as the number."""
        self._check_entry_name(name)
        self._enter(name, where, self.scheme_of(where).value_of(row), row)

    def move(self, name, where):
        """Give an entry the scheme with the name where, and the row that it writes for the number."""
        number = self.number_of(name)
        self._enter(name, where, number, writing(self.scheme_of(where), number))

    def reckon(self, name, where, terms):
        """Put the sum of factor * number of the entry over the terms."""
        self._check_entry_name(name)
        scheme = self.scheme_of(where)
        check_terms(terms, is_name)
        number = sum([factor * self.number_of(entry) for factor, entry in terms])
        self._enter(name, where, number, writing(scheme, number))

    def drop(self, name):
        """Remove an entry, or a scheme that no entry is in."""
        if name not in self:
            raise UnknownName(name)
        if any([home == name for home, _, _ in self.pages.entered.values()]):
            raise InUse(name)
        self.pages.rewrite(name, None, None)

    def deeds(self):
        """Return the number of deeds that are in force."""
        return len(self.pages.replaced)

    def undo(self):
        """Take back the last deed that is in force."""
        if self.deeds() == 0:
            raise NothingToUndo()
        self.pages.take_back()

    def block(self):
        """Return an object for `with`: if what is done in it ends with an exception, the book is put back."""
        return Block(self)

    def done(self, action, keep=True):
        """Call an action in a block and return what it returns; put the book back then unless it is to be kept."""
        with self.block() as block:
            result = action()
            if not keep:
                block.put_back()
        return result

    def schemes(self):
        """Return the names of the schemes, in ascending order."""
        return sorted(self.pages.kept)

    def entries(self):
        """Return the names of the entries, in ascending order."""
        return sorted(self.pages.entered)

    def scheme_of(self, name):
        """Return the scheme with this name."""
        if not _is_key(self.pages.kept, name):
            raise UnknownName(name)
        return self.pages.kept[name]

    def home(self, name):
        """Return the name of the scheme of an entry."""
        return self._entry(name)[0]

    def number_of(self, name):
        """Return the number of an entry."""
        return self._entry(name)[1]

    def row_of(self, name):
        """Return the row of an entry."""
        return self._entry(name)[2]

    def writers(self, name):
        """Return the names of the schemes that write the number of an entry, in ascending order."""
        number = self.number_of(name)
        return [where for where in self.schemes() if is_written(self.scheme_of(where), number)]

    def surely(self, where, terms):
        """Tell whether a scheme writes the sum over the terms whatever the numbers of their entries are."""
        target = self.scheme_of(where)
        check_terms(terms, is_name)
        pairs = [(factor, self.scheme_of(self.home(entry))) for factor, entry in terms]
        return always_written(Form(pairs, target))

    def _entry(self, name):
        """Return the entry with this name."""
        if not _is_key(self.pages.entered, name):
            raise UnknownName(name)
        return self.pages.entered[name]

    def _check_entry_name(self, name):
        """Raise InvalidName or NameTaken unless an entry may have any value as its name."""
        _check_name(name)
        if name in self.pages.kept:
            raise NameTaken(name)

    def _enter(self, name, where, number, row):
        """Keep an entry under a name, if there is a row."""
        if row is None:
            raise NotWritten(number)
        self.pages.rewrite(name, None, (where, number, row))


def _check_name(value):
    """Raise InvalidName unless any value is a name."""
    if not is_name(value):
        raise InvalidName(value)
