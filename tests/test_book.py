"""What a book keeps, its errors, and what it tells [121], [122], [124]."""

import itertools

from oddfigures.book import Book
from oddfigures.errors import (
    InUse, InvalidName, InvalidNumber, InvalidRow, InvalidTerm, InvalidTerms, NameTaken, NotScheme, NotWritten,
    UnknownName, UnlikeBases,
)
from oddfigures.places import writing
from oddfigures.schemes import Scheme, plain_scheme
from tests.book_model import all_told, is_name
from tests.checks import Checks, no_integers, no_schemes
from tests.values import GREAT, any_values, signed

PLAIN = plain_scheme(2)
THREE = plain_scheme(3)
NAMES = ["a", "z", "abcdefgh", "zzzzzzzz", "undo"]
NO_NAMES = [
    "", " ", "a ", " a", "A", "aB", "abcdefghi", "a1", "1", "a_b", "a-b", "a\n", "\n", "ab cd", "{", "`", "a{", ".",
]


def no_names():
    return NO_NAMES + [value for value in any_values() if not is_name(value)]


def strangers():
    """Values that are no name of anything in some_book."""
    return NO_NAMES + [value for value in any_values() if value != "a"]


def some_book():
    """A book with three schemes and three entries."""
    book = Book()
    book.keep("plain", PLAIN)
    book.keep("naf", signed())
    book.keep("three", THREE)
    book.lay("a", "plain", (0, 1, 1))
    book.put("b", "naf", -7)
    book.put("c", "three", 5)
    return book


class BookChecks(Checks):
    def check_no_deed(self, error_class, attribute, wrong, book, call, *given):
        """Check that a call raises this error, and that all that the book tells is as before."""
        before = all_told(book)
        self.check_error(error_class, attribute, wrong, call, *given)
        self.assertEqual(all_told(book), before)


class KeepTest(BookChecks):
    def test_an_empty_book(self):
        book = Book()
        self.assertEqual([book.schemes(), book.entries(), book.deeds()], [[], [], 0])
        for value in any_values():
            self.assertIs(value in book, False)

    def test_names(self):
        book = Book()
        for name in NAMES:
            self.assertIsNone(book.keep(name, PLAIN))
            self.assertEqual(book.scheme_of(name), PLAIN)
            self.assertIs(name in book, True)
        self.assertEqual(book.schemes(), sorted(NAMES))
        other = Book()
        other.keep(scheme=signed(), name="s")
        for name in NAMES:
            self.assertIsNone(other.put(name, "s", 5))
            self.assertEqual(other.number_of(name), 5)
        self.assertEqual(other.entries(), sorted(NAMES))

    def test_no_names(self):
        book = some_book()
        for wrong in no_names():
            self.check_no_deed(InvalidName, "name", wrong, book, book.keep, wrong, PLAIN)
            self.check_no_deed(InvalidName, "name", wrong, book, book.keep, wrong, None)
            self.check_no_deed(InvalidName, "name", wrong, book, book.put, wrong, "plain", 1)
            self.check_no_deed(InvalidName, "name", wrong, book, book.put, wrong, None, None)
            self.check_no_deed(InvalidName, "name", wrong, book, book.lay, wrong, "plain", (1,))
            self.check_no_deed(InvalidName, "name", wrong, book, book.reckon, wrong, "plain", [(1, "a")])
            self.check_no_deed(InvalidName, "name", wrong, book, book.reckon, wrong, None, None)
            self.check_no_deed(UnknownName, "name", wrong, book, book.drop, wrong)

    def test_taken_names(self):
        book = some_book()
        for name in ("plain", "a"):
            self.check_no_deed(NameTaken, "name", name, book, book.keep, name, signed())
            self.check_no_deed(NameTaken, "name", name, book, book.keep, name, None)
        for given in (("plain", "naf"), ("plain", "x"), ("naf", "naf")):
            self.check_no_deed(NameTaken, "name", given[0], book, book.put, *given, 1)
            self.check_no_deed(NameTaken, "name", given[0], book, book.put, *given, None)
            self.check_no_deed(NameTaken, "name", given[0], book, book.lay, *given, (1,))
            self.check_no_deed(NameTaken, "name", given[0], book, book.reckon, *given, [(1, "a")])
            self.check_no_deed(NameTaken, "name", given[0], book, book.reckon, *given, None)

    def test_no_scheme(self):
        book = some_book()
        for wrong in no_schemes():
            self.check_no_deed(NotScheme, "value", wrong, book, book.keep, "d", wrong)

    def test_what_is_kept_under_equal_names_of_other_values(self):
        book = Book()
        scheme = Scheme(2, [0, 1])
        book.keep("p", scheme)
        self.assertEqual(book.scheme_of("p"), plain_scheme(2))
        book.keep("q", scheme)
        self.assertEqual(book.schemes(), ["p", "q"])


class EntryTest(BookChecks):
    def test_put(self):
        book = some_book()
        for where, number in itertools.product(("plain", "naf", "three"), (0, 1, 2, 77, GREAT)):
            self.assertIsNone(book.put("d", where, number))
            self.assertEqual(book.number_of("d"), number)
            self.assertEqual(book.row_of("d"), writing(book.scheme_of(where), number))
            self.assertEqual(book.home("d"), where)
            self.check_row(book.row_of("d"))
            self.check_integers(book.number_of("d"))
        book.put(number=-3, where="naf", name="d")
        self.assertEqual([book.row_of("d"), book.entries()], [(-1, 0, 1), ["a", "b", "c", "d"]])

    def test_lay(self):
        book = some_book()
        for where, row, number in [
            ("plain", (), 0), ("plain", (0, 0), 0), ("plain", (0, 1, 1), 3), ("naf", (1, 0, -1), 3),
            ("three", (2, 1, 0), 21),
            ("plain", (1,) * 400, 2 ** 400 - 1),
        ]:
            self.assertIsNone(book.lay("d", where, row))
            self.assertEqual([book.row_of("d"), book.number_of("d"), book.home("d")], [row, number, where])
        book.lay(row=(1,), where="three", name="d")
        self.assertEqual(book.home("d"), "three")

    def test_wrong_schemes_numbers_and_rows(self):
        book = some_book()
        for wrong in NO_NAMES + any_values() + ["a", "b", "nothing", "d"]:
            for given in (1, None):
                self.check_no_deed(UnknownName, "name", wrong, book, book.put, "d", wrong, given)
                self.check_no_deed(UnknownName, "name", wrong, book, book.put, "a", wrong, given)
                self.check_no_deed(UnknownName, "name", wrong, book, book.lay, "d", wrong, given)
        for wrong in no_integers():
            self.check_no_deed(InvalidNumber, "number", wrong, book, book.put, "d", "plain", wrong)
        for where, wrong in [("plain", -1), ("plain", -GREAT), ("three", -5)]:
            self.check_no_deed(NotWritten, "number", wrong, book, book.put, "d", where, wrong)
            self.check_no_deed(NotWritten, "number", wrong, book, book.put, "a", where, wrong)
        for wrong in any_values() + [(1, 1), [1], (True,), (2,), "1"]:
            if wrong not in signed():
                self.check_no_deed(InvalidRow, "row", wrong, book, book.lay, "d", "naf", wrong)
                self.check_no_deed(InvalidRow, "row", wrong, book, book.lay, "b", "naf", wrong)

    def test_an_entry_with_this_name_is_replaced(self):
        book = some_book()
        book.put("a", "naf", 9)
        self.assertEqual([book.home("a"), book.number_of("a")], ["naf", 9])
        book.lay("a", "three", (2, 2))
        self.assertEqual([book.home("a"), book.number_of("a"), book.entries()], ["three", 8, ["a", "b", "c"]])
        self.assertEqual(book.deeds(), 8)

    def test_move(self):
        book = some_book()
        self.assertEqual(book.row_of("a"), (0, 1, 1))
        self.assertIsNone(book.move("a", "plain"))
        self.assertEqual([book.row_of("a"), book.home("a")], [(1, 1), "plain"])
        book.move(where="naf", name="a")
        self.assertEqual([book.row_of("a"), book.home("a"), book.number_of("a")], [(1, 0, -1), "naf", 3])
        book.move("a", "three")
        self.assertEqual([book.row_of("a"), book.home("a")], [(1, 0), "three"])

    def test_wrong_moves(self):
        book = some_book()
        for wrong in strangers() + ["plain", "naf", "nothing"]:
            self.check_no_deed(UnknownName, "name", wrong, book, book.move, wrong, "plain")
            self.check_no_deed(UnknownName, "name", wrong, book, book.move, wrong, "nothing")
        for wrong in NO_NAMES + any_values() + ["a", "nothing"]:
            self.check_no_deed(UnknownName, "name", wrong, book, book.move, "b", wrong)
        self.check_no_deed(NotWritten, "number", book.number_of("b"), book, book.move, "b", "plain")

    def test_reckon(self):
        book = some_book()
        numbers = {name: book.number_of(name) for name in "abc"}
        for one, other in itertools.product((-2, -1, 1, 2), repeat=2):
            for first, second in itertools.product("abc", repeat=2):
                number = one * numbers[first] + other * numbers[second]
                self.assertIsNone(book.reckon("d", "naf", [(one, first), (other, second)]))
                self.assertEqual([book.number_of("d"), book.row_of("d")], [number, writing(signed(), number)])
            book.reckon(terms=((one, "b"),), where="naf", name="d")
            self.assertEqual([book.number_of("d"), book.home("d")], [one * -7, "naf"])
        book.reckon("a", "plain", [(2, "a"), (1, "a")])
        self.assertEqual([book.number_of("a"), book.row_of("a")], [9, (1, 0, 0, 1)])

    def test_wrong_sums(self):
        book = some_book()
        for wrong in NO_NAMES + any_values() + ["a", "nothing"]:
            self.check_no_deed(UnknownName, "name", wrong, book, book.reckon, "d", wrong, [(1, "a")])
            self.check_no_deed(UnknownName, "name", wrong, book, book.reckon, "d", wrong, None)
        for wrong in any_values() + [[(1, "a")] * 3, ()]:
            if not isinstance(wrong, (list, tuple)) or not 1 <= len(wrong) <= 2:
                self.check_no_deed(InvalidTerms, "value", wrong, book, book.reckon, "d", "naf", wrong)
                self.check_error(InvalidTerms, "value", wrong, book.surely, "naf", wrong)
        for wrong in any_values() + [
            [1, "a"], (1,), (1, "a", "b"), ("a", 1), (0, "a"), (3, "a"), (-3, "a"), (True, "a"), ("1", "a"),
            (None, "a"), (1, ""),
            (1, "A"), (1, "a "), (1, None), (1, 1), (1, PLAIN), (1, ["a"]), (1, "abcdefghi"), (GREAT, "a"), ({}, "a"),
            (1, {}),
        ]:
            for given in ([wrong], (wrong,), [(1, "a"), wrong], [wrong, (1, "nothing")], [(1, "nothing"), wrong],
                [wrong, None]):
                self.check_no_deed(InvalidTerm, "term", wrong, book, book.reckon, "d", "naf", given)
                self.check_error(InvalidTerm, "term", wrong, book.surely, "naf", given)
        for given, wrong in [
            ([(1, "plain")], "plain"), ([(1, "d")], "d"), ([(1, "a"), (2, "naf")], "naf"), ([(1, "x"), (2, "y")], "x"),
            ([(1, "nothing"), (1, "a")], "nothing"),
        ]:
            self.check_no_deed(UnknownName, "name", wrong, book, book.reckon, "d", "plain", given)
            self.check_error(UnknownName, "name", wrong, book.surely, "plain", given)
        for given, number in [([(-1, "a")], -3), ([(1, "b")], -7), ([(1, "a"), (-1, "c")], -2)]:
            before = all_told(book)
            for name in ("d", "a"):
                with self.assertRaises(NotWritten) as caught:
                    book.reckon(name, "plain", given)
                self.assertEqual(caught.exception.number, number)
                self.assertEqual(all_told(book), before)

    def test_drop(self):
        book = some_book()
        self.assertIsNone(book.drop("a"))
        self.assertEqual([book.entries(), "a" in book], [["b", "c"], False])
        book.drop(name="plain")
        self.assertEqual([book.schemes(), "plain" in book], [["naf", "three"], False])
        self.assertEqual(book.deeds(), 8)
        book.put("plain", "naf", 1)
        book.keep("a", PLAIN)
        self.assertEqual([book.schemes(), book.entries()], [["a", "naf", "three"], ["b", "c", "plain"]])

    def test_wrong_drops(self):
        book = some_book()
        for wrong in strangers() + ["nothing", "aa", ""]:
            self.check_no_deed(UnknownName, "name", wrong, book, book.drop, wrong)
        for name in ("plain", "naf", "three"):
            self.check_no_deed(InUse, "name", name, book, book.drop, name)
        book.move("a", "naf")
        book.drop("plain")
        self.check_no_deed(UnknownName, "name", "plain", book, book.drop, "plain")


class TellTest(BookChecks):
    def test_in_ascending_order(self):
        book = Book()
        for name in ("q", "ab", "aa", "z", "b", "a"):
            book.keep(name, PLAIN)
            book.put("e" + name, "q", 3)
        self.assertEqual(book.schemes(), ["a", "aa", "ab", "b", "q", "z"])
        self.assertEqual(book.entries(), ["ea", "eaa", "eab", "eb", "eq", "ez"])
        self.assertEqual(book.writers("ea"), book.schemes())

    def test_writers(self):
        book = some_book()
        self.assertEqual([book.writers(name) for name in "abc"],
            [["naf", "plain", "three"], ["naf"], ["naf", "plain", "three"]])
        book.keep("bars", PLAIN.barred([(1, 1)]))
        self.assertEqual([book.writers(name=name) for name in "abc"],
            [["naf", "plain", "three"], ["naf"], ["bars", "naf", "plain", "three"]])

    def test_unknown_names(self):
        book = some_book()
        for wrong in strangers() + ["nothing", "plain", "naf"]:
            for call in (book.number_of, book.row_of, book.home, book.writers):
                self.check_error(UnknownName, "name", wrong, call, wrong)
        for wrong in any_values() + ["nothing", "a", "b"]:
            self.check_error(UnknownName, "name", wrong, book.scheme_of, wrong)
            self.check_error(UnknownName, "name", wrong, book.surely, wrong, [(1, "a")])
            self.check_error(UnknownName, "name", wrong, book.surely, wrong, None)

    def test_in(self):
        book = some_book()
        for name in ("plain", "naf", "three", "a", "b", "c"):
            self.assertIs(name in book, True)
            self.assertIs([name] in book, False)
            self.assertIs((name,) in book, False)
        for value in strangers() + ["nothing", "A", "a ", "plai"]:
            self.assertIs(value in book, False)

    def test_surely(self):
        book = some_book()
        for where, terms, expected in [
            ("naf", [(1, "a"), (1, "b")], True), ("plain", [(1, "a")], True), ("plain", [(1, "b")], False),
            ("plain", [(-1, "a")], False),
            ("plain", [(2, "a"), (1, "a")], True), ("naf", [(-2, "b"), (-2, "a")], True),
            ("plain", [(1, "a"), (-1, "a")], False),
            ("three", [(2, "c"), (2, "c")], True), ("three", [(-1, "c")], False),
        ]:
            self.assertIs(book.surely(where, terms), expected, (where, terms))
            self.assertIs(book.surely(terms=tuple(terms), where=where), expected)
        # It does not matter what the numbers are.
        book.put("b", "naf", 7)
        self.assertIs(book.surely("plain", [(1, "b")]), False)
        book.reckon("d", "plain", [(1, "b")])

    def test_surely_with_unlike_bases(self):
        book = some_book()
        for where, terms, base in [
            ("three", [(1, "a")], 2), ("naf", [(1, "c")], 3), ("plain", [(1, "a"), (1, "c")], 3),
            ("three", [(1, "a"), (1, "c")], 2),
        ]:
            with self.assertRaises(UnlikeBases) as caught:
                book.surely(where, terms)
            self.assertEqual(caught.exception.value, base)

    def test_equal_books(self):
        self.assertIs(some_book() == some_book(), True)
        self.assertIs(some_book() != some_book(), False)
        self.assertIs(Book() == Book(), True)
        # Their deeds do not count.
        book = some_book()
        book.put("d", "plain", 3)
        self.assertIs(book == some_book(), False)
        book.drop("d")
        self.assertEqual(book.deeds(), 8)
        self.assertIs(book == some_book(), True)

    def test_unlike_books(self):
        changes = [
            lambda book: book.put("a", "plain", 3), lambda book: book.put("a", "plain", 4),
            lambda book: book.move("a", "naf"),
            lambda book: book.drop("a"), lambda book: book.keep("d", PLAIN), lambda book: book.put("d", "plain", 3),
            lambda book: book.lay("b", "naf", (0, -1, 0, 0, 1)), lambda book: book.lay("a", "plain", (0, 0, 1, 1)),
        ]
        books = [some_book()]
        for change in changes:
            book = some_book()
            change(book)
            books.append(book)
        for (at, one), (other_at, other) in itertools.product(enumerate(books), repeat=2):
            self.assertIs(one == other, at == other_at, (at, other_at))
        # Equal schemes and rows, but in schemes of other names.
        one, other = Book(), Book()
        for book in (one, other):
            book.keep("p", PLAIN)
            book.keep("q", PLAIN)
        one.put("a", "p", 1)
        other.put("a", "q", 1)
        self.assertIs(one == other, False)
        less = Book()
        less.keep("p", signed())
        self.assertIs(less == Book(), False)

    def test_equal_to_no_value_of_another_class(self):
        book = some_book()
        for value in any_values() + [book.schemes(), {"a": 1}]:
            self.assertIs(book == value, False)
            self.assertIs(value == book, False)

    def test_what_is_returned_may_be_changed(self):
        book = some_book()
        before = all_told(book)
        for call in (book.schemes, book.entries, lambda: book.writers("a")):
            call().append("x")
            call().clear()
        self.assertEqual(all_told(book), before)

    def test_what_is_handed_in_is_not_changed(self):
        book = some_book()
        given = [(1, "a"), (2, "c")]
        book.reckon("d", "naf", given)
        book.surely("naf", given[:1])
        self.assertEqual(given, [(1, "a"), (2, "c")])

    def test_interface(self):
        for name, parameters in {
            "keep": "(self, name, scheme)", "put": "(self, name, where, number)", "lay": "(self, name, where, row)",
            "move": "(self, name, where)", "reckon": "(self, name, where, terms)", "drop": "(self, name)",
            "deeds": "(self)",
            "undo": "(self)", "block": "(self)", "done": "(self, action, keep=True)", "schemes": "(self)",
            "entries": "(self)",
            "scheme_of": "(self, name)", "number_of": "(self, name)", "row_of": "(self, name)", "home": "(self, name)",
            "writers": "(self, name)", "surely": "(self, where, terms)", "__contains__": "(self, name)",
            "__eq__": "(self, other)",
        }.items():
            self.check_interface("oddfigures.book", vars(Book)[name], parameters)
        self.check_interface("oddfigures.book", Book, "()")
