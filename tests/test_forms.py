"""Forms: their terms and targets, what they are equal to, and their values [6], [71]."""

import itertools

from oddfigures.errors import InvalidRows, InvalidTerm, InvalidTerms, NotScheme, UnlikeBases
from oddfigures.forms import Form
from oddfigures.schemes import Scheme, plain_scheme
from tests.checks import Checks, no_schemes
from tests.form_reference import edge_forms, mixed_forms, value_of
from tests.reference import rows_up_to
from tests.values import GREAT, any_values, signed

TWO = plain_scheme(2)
OTHER_TWO = plain_scheme(-2)
THREE = plain_scheme(3)


class FormTest(Checks):
    def test_terms_and_target(self):
        for factor in (-2, -1, 1, 2):
            form = Form([(factor, TWO)], OTHER_TWO)
            self.assertEqual(form.terms, ((factor, TWO),))
            self.assertIs(form.terms.__class__, tuple)
            self.assertEqual(form.target, OTHER_TWO)
        form = Form([(1, TWO), (-2, OTHER_TWO)], signed())
        self.assertEqual(form.terms, ((1, TWO), (-2, OTHER_TWO)))
        self.assertEqual(Form(((1, TWO), (-2, OTHER_TWO)), signed()), form)
        self.assertEqual(Form(target=signed(), terms=[(1, TWO), (-2, OTHER_TWO)]), form)

    def test_terms_are_copied(self):
        given = [(1, TWO)]
        form = Form(given, signed())
        given.append((2, TWO))
        given[0] = (-1, TWO)
        self.assertEqual(form.terms, ((1, TWO),))
        self.assertEqual(given, [(-1, TWO), (2, TWO)])

    def test_equal_forms(self):
        for make in (
            lambda: Form([(1, plain_scheme(2))], signed()), lambda: Form([(-2, TWO), (1, signed())], Scheme(-2, [1])),
        ):
            self.assertIs(make() == make(), True)
            self.assertIs(make() != make(), False)

    def test_unlike_forms(self):
        forms = [
            Form([(1, TWO)], signed()), Form([(2, TWO)], signed()), Form([(-1, TWO)], signed()), Form([(1, TWO)], TWO),
            Form([(1, OTHER_TWO)], signed()), Form([(1, signed())], signed()), Form([(1, TWO), (1, TWO)], signed()),
            Form([(1, TWO), (2, TWO)], signed()), Form([(2, TWO), (1, TWO)], signed()),
            Form([(1, TWO), (1, OTHER_TWO)], signed()), Form([(1, OTHER_TWO), (1, TWO)], signed()),
        ]
        for at, other_at in itertools.product(range(len(forms)), repeat=2):
            self.assertIs(forms[at] == forms[other_at], at == other_at)

    def test_equal_to_no_value_of_another_class(self):
        form = Form([(-1, TWO)], signed())
        for value in [*any_values(), form.terms, form.target, (form.terms, form.target), [form]]:
            self.assertIs(form == value, False)
            self.assertIs(value == form, False)

    def test_no_list_of_terms(self):
        for wrong in any_values():
            if not isinstance(wrong, (list, tuple)) or not 1 <= len(wrong) <= 2:
                self.check_error(InvalidTerms, "value", wrong, Form, wrong, signed())
                self.check_error(InvalidTerms, "value", wrong, Form, wrong, None)
        for wrong in ([(1, TWO)] * 3, ((1, TWO), (1, TWO), None), [None, None, None], [(1, TWO)] * 5000):
            self.check_error(InvalidTerms, "value", wrong, Form, wrong, signed())

    def test_the_first_item_that_is_no_term(self):
        right = (1, TWO)
        for wrong in any_values() + [
            [1, TWO], (1,), (TWO,), (TWO, 1), (1, TWO, TWO), (0, TWO), (3, TWO), (-3, TWO), (True, TWO), (False, TWO),
            (None, TWO), ("1", TWO), (GREAT, TWO), ((1,), TWO), (1, (2, (0, 1), ())), (1, str(TWO)), (1, None),
            (1, 2), (1, [TWO]), (1, Form([right], TWO)), (TWO, TWO), ({}, TWO), ([], TWO),
        ]:
            for given in ([wrong], (wrong,), [right, wrong], (wrong, right), [wrong, None], [wrong, (1, THREE)]):
                self.check_error(InvalidTerm, "term", wrong, Form, given, signed())
                self.check_error(InvalidTerm, "term", wrong, Form, given, None)

    def test_no_scheme_as_the_target(self):
        for wrong in no_schemes():
            for terms in ([(1, TWO)], ((1, TWO), (-1, THREE))):
                self.check_error(NotScheme, "value", wrong, Form, terms, wrong)

    def test_unlike_bases(self):
        for terms, target, base in [
            ([(1, TWO)], THREE, 2), ([(1, OTHER_TWO)], THREE, -2), ([(1, THREE)], TWO, 3),
            ([(1, TWO)], plain_scheme(4), 2),
            ([(1, TWO), (1, plain_scheme(-3))], TWO, -3), ([(1, plain_scheme(-6)), (1, THREE)], plain_scheme(4), -6),
            ([(1, THREE), (1, plain_scheme(5))], TWO, 3), ([(1, THREE), (1, TWO)], plain_scheme(-3), 2),
        ]:
            with self.assertRaises(UnlikeBases) as caught:
                Form(terms, target)
            self.assertEqual(caught.exception.value, base)
        for base, other in itertools.product((-6, -5, -4, -3, -2, 2, 3, 4, 5, 6), repeat=2):
            if abs(base) == abs(other):
                self.assertEqual(Form([(1, plain_scheme(base))], plain_scheme(other)).terms[0][0], 1)
            else:
                with self.assertRaises(UnlikeBases):
                    Form([(1, plain_scheme(base))], plain_scheme(other))

    def test_interface(self):
        self.check_interface("oddfigures.forms", Form, "(terms, target)")


class ValueTest(Checks):
    def test_values(self):
        for form in edge_forms() + mixed_forms(60, 100, seed=2):
            for rows in itertools.product(*[rows_up_to(scheme, 2)[-9:] for _, scheme in form.terms]):
                found = form.value_of(list(rows))
                self.check_integers(found)
                self.assertEqual(found, value_of(form, rows))
                self.assertEqual(form.value_of(rows=rows), found)

    def test_some_values(self):
        for terms, rows, number in [
            ([(1, TWO)], [()], 0), ([(-2, TWO)], [(1, 1, 0)], -12), ([(2, OTHER_TWO)], [(1, 1, 0)], 4),
            ([(2, TWO), (-1, OTHER_TWO)], [(1, 0, 1), (1, 1)], 11), ([(1, TWO), (1, TWO)], [(), (0, 0, 1)], 1),
            ([(1, TWO)], [(1,) * 400], 2 ** 400 - 1), ([(-2, TWO), (1, TWO)], [(1, 0) * 200, (1,)],
                -2 * (4 ** 200 - 1) * 2 // 3 + 1),
        ]:
            self.assertEqual(Form(terms, TWO).value_of(rows), number)

    def test_no_rows_for_the_form(self):
        one = Form([(1, TWO)], TWO)
        two = Form([(1, TWO), (-1, signed())], TWO)
        self.assertEqual([one.value_of(rows) for rows in ([(0, 1)], ((0, 1),), ((0,),))], [1, 1, 0])
        for wrong in any_values():
            if wrong not in ([(0, 1)], ((0, 1),), ((0,),)):
                self.check_error(InvalidRows, "rows", wrong, one.value_of, wrong)
            if wrong != ((0, 1), (1, 0)):
                self.check_error(InvalidRows, "rows", wrong, two.value_of, wrong)

    def test_rows_that_do_not_fit(self):
        one = Form([(1, TWO)], TWO)
        two = Form([(1, TWO), (-1, signed())], TWO)
        for form, wrong in [
            (one, []), (one, ()), (one, [(), ()]), (one, [(2,)]), (one, [[1]]), (one, [(True,)]), (one, (1,)),
            (one, [1]),
            (one, [None]), (one, [(1, None)]), (one, {0: (1,)}), (one, "1"), (one, [(1,), None]), (one, ((1,), (1,))),
            (two, [(1,)]), (two, [(1,), (1, 1)]), (two, [(-1,), (1,)]), (two, [(1,), [1]]), (two, [[1], (1,)]),
            (two, [(1,), (1,), ()]), (two, [(1,), (False,)]), (two, ((1, 2), (1,))), (two, ((1, 1), (0, -1, 1))),
        ]:
            self.check_error(InvalidRows, "rows", wrong, form.value_of, wrong)

    def test_what_is_handed_in_is_not_changed(self):
        given = [(1, 0), (1,)]
        Form([(1, TWO), (-1, signed())], TWO).value_of(given)
        self.assertEqual(given, [(1, 0), (1,)])
