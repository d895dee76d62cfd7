"""The main promises, over the whole program [12]: each question has an answer, and each answer its proof."""

import random

from oddfigures.book import Book
from oddfigures.counts import plain_count
from oddfigures.forms import always_written, failing, is_paper, paper
from oddfigures.fractions import endless_count, endless_row, fraction_of, is_why_none, why_none
from oddfigures.machines import is_refuter, is_table, refuter, table
from oddfigures.oneway import difference_paper, is_difference_paper, two_rows
from oddfigures.places import closed_list, is_closed_list, is_written, writing
from oddfigures.prices import cheapest, is_cheapest, potentials, price_of
from oddfigures.running import Machine, classes, parting_rows
from oddfigures.wholes import alike, breaking, closed_under, parting, unwritten, writes_all
from tests.book_model import all_told
from tests.checks import Checks
from tests.form_reference import LAG_FORMS, mixed_forms, some_scheme
from tests.test_tables import lags_of
from tests.values import BASES


def drawn_schemes(many, seed):
    chance = random.Random(seed)
    return [some_scheme(chance, chance.choice(BASES), 6, fuller=k % 2 == 0) for k in range(many)]


class MainPromisesTest(Checks):
    def test_a_row_or_a_closed_list(self):
        for scheme in drawn_schemes(60, 51):
            for number in (0, 1, -1, 17, -1000, 10 ** 99 + 3):
                row, closed = writing(scheme, number), closed_list(scheme, number)
                self.assertIs(row is None, closed is not None)
                self.assertIs(is_written(scheme, number), row is not None)
                if row is None:
                    self.assertIs(is_closed_list(scheme, number, closed), True)
                else:
                    self.assertEqual(scheme.value_of(row), number)

    def test_a_paper_or_rows_that_fail(self):
        for form in mixed_forms(120, 300, seed=52):
            rows, shown = failing(form), paper(form)
            self.assertIs(rows is None, shown is not None)
            self.assertIs(always_written(form), rows is None)
            if rows is None:
                self.assertIs(is_paper(form, shown), True)
            else:
                number = form.value_of(rows)
                self.assertIs(is_closed_list(form.target, number, closed_list(form.target, number)), True)

    def test_one_way_or_two_rows(self):
        for scheme in drawn_schemes(60, 53):
            rows, shown = two_rows(scheme), difference_paper(scheme)
            self.assertIs(rows is None, shown is not None)
            if rows is None:
                self.assertIs(is_difference_paper(scheme, shown), True)
                self.assertIn(plain_count(scheme, 12), (0, 1))
            else:
                self.assertEqual(scheme.value_of(rows[0]), scheme.value_of(rows[1]))
                self.assertNotEqual(plain_count(scheme, scheme.value_of(rows[0])), 1)

    def test_a_table_or_a_refuter(self):
        for form in mixed_forms(60, 40, seed=54) + list(LAG_FORMS.values()):
            for lag in lags_of(form):
                given, shown = table(form, lag), refuter(form, lag)
                self.assertIs(given is None, shown is not None)
                if given is None:
                    self.assertIs(is_refuter(form, lag, shown), True)
                    continue
                self.assertIs(is_table(form, lag, given), True)
                machine = Machine(form, lag, given)
                self.assertIsNone(parting_rows(machine, Machine(form, lag, given)))
                self.assertLessEqual(len(classes(machine)), len(machine))

    def test_the_cheapest_row_and_its_amounts(self):
        chance = random.Random(55)
        for scheme in drawn_schemes(40, 55):
            prices = {digit: chance.randint(0, 9) for digit in scheme.digits}
            for number in (0, 5, -8, 10 ** 20):
                found, amounts = cheapest(scheme, number, prices), potentials(scheme, number, prices)
                self.assertIs(found is None, amounts is None)
                if found is not None:
                    self.assertEqual(price_of(scheme, found[1], prices), found[0])
                    self.assertIs(is_cheapest(scheme, number, prices, found[1], amounts), True)

    def test_endless_rows_are_counted(self):
        for scheme in drawn_schemes(60, 56):
            for top, bottom in [(0, 1), (1, 2), (-3, 7), (11, 60)]:
                row, shown = endless_row(scheme, top, bottom), why_none(scheme, top, bottom)
                self.assertIs(row is None, shown is not None)
                self.assertIs(row is None, endless_count(scheme, top, bottom) == 0)
                if row is None:
                    self.assertIs(is_why_none(scheme, top, bottom, shown), True)
                else:
                    found = fraction_of(scheme, *row)
                    self.assertEqual(found[0] * bottom, top * found[1])

    def test_whole_sets_of_numbers(self):
        for scheme in drawn_schemes(40, 57):
            self.assertIs(writes_all(scheme), unwritten(scheme, "up") is None and unwritten(scheme, "down") is None)
            self.assertIs(alike(scheme, scheme.free()), parting(scheme, scheme.free()) is None)
            for word in ("negative", "double"):
                self.assertIs(closed_under(scheme, word), breaking(scheme, word) is None)

    def test_a_book_as_one_that_was_made_anew(self):
        schemes = drawn_schemes(4, 58)
        book, anew = Book(), Book()
        for name, scheme in zip("abcd", schemes):
            for each in (book, anew):
                each.keep(name, scheme)
        for name, scheme in zip("wxyz", schemes):
            book.lay(name, "abcd"[schemes.index(scheme)], ())
        book.done(lambda: [book.drop("w"), book.undo(), book.undo()], keep=False)
        for _ in range(4):
            book.undo()
        self.assertEqual(all_told(book), all_told(anew))
        self.assertIs(book == anew, True)
