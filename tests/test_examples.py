"""The document's examples, word by word [33], [43], [53], [63], [75], [83], [94], [104], [113],
[124], [133]."""

import unittest

from oddfigures.book import Book
from oddfigures.console import Console
from oddfigures.counts import greatest, is_loop, least, plain_count, plain_rows, row_count
from oddfigures.errors import InUse
from oddfigures.forms import Form, always_written, failing
from oddfigures.fractions import endless_count, endless_row, fraction_of
from oddfigures.machines import is_refuter, least_lag, refuter, table
from oddfigures.oneway import difference_paper, is_difference_paper, one_way, two_rows
from oddfigures.places import closed_list, core, is_closed_list, is_written, steps, writing
from oddfigures.prices import cheapest, is_cheapest, potentials, price_of
from oddfigures.running import Machine
from oddfigures.schemes import Scheme, plain_scheme
from oddfigures.wholes import (
    alike, breaking, closed_under, parting, unwritten, writes_all, writes_down, writes_up,
)

SIGNED = Scheme(2, [-1, 0, 1], bars=[(-1, -1), (-1, 1), (1, -1), (1, 1)])
FREE = Scheme(2, [-1, 0, 1])


class ExamplesTest(unittest.TestCase):
    def test_places(self):
        self.assertEqual(
            [
                core(SIGNED), steps(SIGNED, 7), steps(SIGNED, 7, 1), writing(SIGNED, 7), writing(SIGNED, 7, 1),
                closed_list(SIGNED, 7),
            ],
            [1, [(4, -1), (3, 1)], [], (1, 0, 0, -1), None, None],
        )
        odd = Scheme(3, [0, 1, 5])
        self.assertEqual(
            [
                is_written(odd, -1), steps(odd, -1), is_closed_list(odd, -1, [(-1, None), (-2, 5), (-1, 1)]),
                is_closed_list(odd, -1, [(-1, None), (-2, 5)]),
            ],
            [False, [(-2, 5)], True, False],
        )

    def test_counts(self):
        self.assertEqual(
            [
                row_count(FREE, 3), greatest(FREE, 4), least(FREE.barred([(-1, -1)]), 2), plain_count(FREE, 0),
                plain_count(FREE, 1),
            ],
            [27, 15, -2, 1, None],
        )
        self.assertEqual(
            [plain_rows(FREE, 3, 4), is_loop(FREE, 1, ((1,), (-1,), (-1,))), is_loop(FREE, 1, ((1,), (0,), ()))],
            [[(1, 1), (1, -1, 1), (1, 0, -1), (1, -1, -1, 1)], True, False],
        )

    def test_one_way(self):
        self.assertEqual(
            [
                one_way(FREE), sorted([len(two_rows(FREE)[0]), len(two_rows(FREE)[1])]), one_way(SIGNED),
                two_rows(SIGNED), is_difference_paper(SIGNED, difference_paper(SIGNED)),
            ],
            [False, [1, 2], True, None, True],
        )

    def test_prices(self):
        prices = {-1: 3, 0: 1, 1: 3}
        amounts = potentials(FREE, 7, prices)
        self.assertEqual(
            [
                cheapest(FREE, 7, prices), price_of(FREE, (1, 1, 1), prices),
                is_cheapest(FREE, 7, prices, (1, 0, 0, -1), amounts), is_cheapest(FREE, 7, prices, (1, 1, 1), amounts),
            ],
            [(8, (1, 0, 0, -1)), 9, True, False],
        )

    def test_forms(self):
        recoded = Form([(1, plain_scheme(2))], SIGNED)
        state = recoded.after(recoded.start(), (1,))
        self.assertEqual(
            [state, recoded.readings(state), recoded.after(state, (1,))],
            [((1,), (1,), ((0, 1), (1, -1))), [(0,), (1,)], ((1,), (1,), ((1, 0), (1, "end")))],
        )
        self.assertEqual(
            [
                always_written(recoded), failing(Form([(1, SIGNED)], plain_scheme(2))),
                always_written(Form([(1, SIGNED), (-2, SIGNED)], SIGNED)),
            ],
            [True, ((-1,),), True],
        )

    def test_wholes(self):
        seven = Scheme(3, [-7, 0, 1])
        self.assertEqual(
            [
                writes_all(seven), unwritten(seven, "up"), writes_up(Scheme(3, [0, 1, 5])),
                writes_all(plain_scheme(-2)), writes_down(plain_scheme(2)),
            ],
            [True, None, False, True, False],
        )
        self.assertEqual(
            [
                alike(seven, Scheme(3, [-1, 0, 1])), parting(plain_scheme(2), plain_scheme(-2)) < 0,
                closed_under(seven, "plus"), breaking(seven, "minus"),
            ],
            [True, True, True, None],
        )

    def test_machines(self):
        recoded = Form([(1, plain_scheme(2))], SIGNED)
        self.assertEqual(
            [
                least_lag(recoded), table(recoded, 0), is_refuter(recoded, 0, refuter(recoded, 0)),
                least_lag(Form([(2, plain_scheme(2))], plain_scheme(2))),
            ],
            [1, None, True, 0],
        )

    def test_machines_at_work(self):
        recoded = Form([(1, plain_scheme(2))], SIGNED)
        machine = Machine(recoded, 1, table(recoded, 1))
        self.assertEqual(
            [machine([(1, 1, 1)]), list(machine.track([(1, 1, 1)])), machine([()])],
            [(1, 0, 0, -1), [((1,), None), ((1,), -1), ((1,), 0)], ()],
        )

    def test_fractions(self):
        plain = plain_scheme(2)
        self.assertEqual(
            [
                fraction_of(plain, (), (0, 1)), endless_count(plain, 1, 3), endless_count(plain, 1, 2),
                endless_row(Scheme(3, [0, 2]), 1, 2), endless_count(FREE, 0, 1),
            ],
            [(1, 3), 1, 2, None, None],
        )

    def test_books(self):
        book = Book()
        self.assertEqual([book.keep("plain", plain_scheme(2)), book.keep("naf", SIGNED)], [None, None])
        self.assertEqual(
            [
                book.lay("a", "plain", (1, 1, 1)), book.move("a", "naf"), book.row_of("a"),
                book.reckon("b", "naf", [(2, "a"), (-1, "a")]), book.number_of("b"),
            ],
            [None, None, (1, 0, 0, -1), None, 7],
        )
        self.assertEqual(
            [
                book.surely("naf", [(1, "a"), (1, "b")]), book.surely("plain", [(1, "a")]), book.writers("a"),
                book.deeds(), book.undo(), book.entries(),
            ],
            [True, False, ["naf", "plain"], 5, None, ["a"]],
        )
        with self.assertRaises(InUse) as caught:
            book.drop("naf")
        self.assertEqual(caught.exception.name, "naf")
        self.assertEqual(
            [book.done(lambda: [book.put("c", "plain", 5), book.row_of("c")], keep=False), "c" in book],
            [[None, (1, 0, 1)], False],
        )

    def test_a_console(self):
        console = Console()
        self.assertEqual(
            console.said([
                "scheme naf base 2; digits -1 0 1; bars -1 -1, -1 1, 1 -1, 1 1", "put a naf 7", "show a",
                "sum b naf 2 a -1 a", "value b", "names",
            ]),
            ["done", "done", "1 0 0 -1", "done", "7", "a b naf"],
        )
        self.assertEqual(
            console.said([
                "all naf", "count naf 7", "write naf -3", "lay c naf 1 1", "put c plain 1", "undo", "undo", "home b",
                "surely naf 1 a", "put a",
            ]),
            [
                "yes", "1", "-1 0 1", "! InvalidRow", "! UnknownName", "done", "done", "! UnknownName",
                "! UnknownName", "! InvalidLine",
            ],
        )
