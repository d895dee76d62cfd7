"""Values for the tests: some of every kind that may be passed as any value."""

from oddfigures.book import Book
from oddfigures.console import Console
from oddfigures.errors import InvalidBase, NothingToUndo
from oddfigures.forms import Form
from oddfigures.machines import table
from oddfigures.running import Machine
from oddfigures.schemes import Scheme, plain_scheme

BASES = [-6, -5, -4, -3, -2, 2, 3, 4, 5, 6]
DIGITS = list(range(-9, 10))
GREAT = 10 ** 99 + 7


def signed():
    """The scheme of the document's examples."""
    return Scheme(2, [-1, 0, 1], bars=[(-1, -1), (-1, 1), (1, -1), (1, 1)])


def made(form, lag):
    """A machine with the table that there is."""
    return Machine(form, lag, table(form, lag))


RECODING = made(Form([(1, plain_scheme(2))], signed()), 1)
KEEPING = made(Form([(1, signed())], signed()), 0)


def other_values():
    """Values that are neither integers, strings, lists nor tuples."""
    return [
        None, True, False, {}, {"a": 1}, {0: 1, 1: 0}, {-1: 0}, {(0, 1): "b", (None, ("a", 2)): []},
        plain_scheme(2), signed(), Scheme(-6, (9,)), InvalidBase(3), NothingToUndo(),
        Form([(1, plain_scheme(2))], signed()), Form([(-2, Scheme(-3, [1])), (2, plain_scheme(3))], Scheme(3, [0])),
        RECODING, KEEPING, RECODING >> KEEPING, Book(), Console(),
    ]


def integers():
    """Integers of all sizes."""
    return [*range(-12, 13), 100, -100, GREAT, -GREAT, 2 ** 64, -2 ** 63]


def strings():
    """Strings that are no text of a row and no text of a scheme."""
    return [
        "", " ", "\n", "0 ", " 0", "0  1", "0\n", "\n0", "0\n1", "-0", "+1", "- 1", "--1", "01", "00", "10", "-10",
        "1,2", "1.", ". .", "..", ". 1", "1 .", ". ", " .", ".\n", "a", "None", "True", "1 a", "(1, 0)", "1 -", "-",
        "0_1", "0x1", "1e0", "19", "1" * 4000, "base", "end", "{}", "[0]",
    ]


def lists():
    """Lists and tuples with unlike contents, none of them a tuple of digits."""
    return [
        [], [0], [0, 1], [1, 0, -1], [True], [10], [None], ["0"], [[0]], [(0, 1)], [(0, 0), (1, 1)], [[[[[[[[]]]]]]]],
        (True,), (0, False), (10,), (-10,), (0, 10), (1, None), (None,), ("0",), ("0", "1"), ((0,),), ((0, 1),),
        ([],), ({},), (0, GREAT), (plain_scheme(2),), (0, "end"), ((0, 1), (1, 0)), (0, ()), (-1, 0, True),
    ]


def rows():
    """Tuples of digits."""
    return [(), (0,), (1,), (-1,), (9,), (-9,), (0, 0), (0, 1), (1, 0, -1), (9, -9, 0), (-1,) * 400, (1, 0) * 200]


def any_values():
    """Some values of every kind that may be passed as any value."""
    return other_values() + integers() + strings() + lists() + rows()
