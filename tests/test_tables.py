"""Tables of machines, and the least lag for which there is one [91], [92], [93]."""

import random

from oddfigures.errors import InvalidLag
from oddfigures.forms import Form, always_written, state_count
from oddfigures.machines import is_table, least_lag, refuter, table
from oddfigures.schemes import Scheme, plain_scheme
from tests.checks import Checks
from tests.form_reference import (
    END, LAG_FORMS, chosen_table, edge_forms, first_position, mixed_forms, readings_behind, shows_table,
    table_positions, told,
)
from tests.test_failing import form_of
from tests.values import any_values, signed

TWO = plain_scheme(2)
RECODED = Form([(1, TWO)], signed())
DOUBLED = Form([(2, TWO)], TWO)
SUM = Form([(1, TWO), (1, plain_scheme(-2))], Scheme(2, [-1, 0, 1]))
EMPTY = Form([(1, Scheme(2, [1], bars=[(1, 1)]))], TWO)


def lags_of(form):
    return (0, 1, 2) if len(form.terms) == 1 else (0, 1)


def no_lags(form):
    return [
        value for value in any_values() if value.__class__ is not int or value not in lags_of(form)
    ]


class TableTest(Checks):
    def check_table(self, form, lag, given):
        self.assertIs(given.__class__, dict)
        for (position, reading), written in given.items():
            lasts, held, signs, carry, right = position
            for part in (position, reading, lasts, held, signs, *held):
                self.assertIs(part.__class__, tuple)
            self.check_integers(carry, *signs, *[item for item in (right, written) if item not in (None, END)])
        self.assertTrue(shows_table(form, lag, given), (told(form), lag))
        self.assertIs(is_table(form, lag, given), True)

    def test_a_table_just_where_there_is_no_refuter(self):
        found = {True: 0, False: 0}
        for form in edge_forms() + mixed_forms(120, 40, seed=9):
            for lag in lags_of(form):
                given = table(form, lag)
                self.assertIs(given is None, refuter(form, lag) is not None)
                found[given is not None] += 1
                if given is not None and len(given) < 900:
                    self.check_table(form, lag, given)
        self.assertGreater(min(found.values()), 100)

    def test_none_where_the_form_is_not_always_written(self):
        for form in edge_forms():
            if not always_written(form):
                for lag in lags_of(form):
                    self.assertIsNone(table(form, lag))
                self.assertIsNone(least_lag(form))

    def test_least_lags(self):
        for lag, form in LAG_FORMS.items():
            self.assertIs(always_written(form), True)
            self.assertEqual(least_lag(form), lag)
            for other in (0, 1, 2):
                self.assertIs(table(form, other) is not None, lag is not None and other >= lag)
        for form in edge_forms() + mixed_forms(40, 40, seed=10):
            least = [lag for lag in lags_of(form) if table(form, lag) is not None]
            self.assertEqual(least_lag(form), least[0] if least else None)
        self.assertEqual(least_lag(form=RECODED), 1)
        self.assertEqual(least_lag(Form([(1, Scheme(2, [-3, -1])), (-1, Scheme(2, [4]))],
            Scheme(2, [-3, -2, -1, 0], bars=[(-1, -2), (-1, -1)]))), 1)

    def test_the_only_table(self):
        # Each bit is written as it is read.
        same = Form([(1, TWO)], TWO)
        start = first_position(same)
        self.assertEqual(start, ((None,), (), (1,), 0, None))
        positions = [start, ((0,), (), (1,), 0, 0), ((1,), (), (1,), 0, 1)]
        digits = {(position, (digit,)): digit for position in positions for digit in (0, 1)}
        self.assertEqual(table(same, 0), digits)
        self.assertIs(is_table(same, 0, digits), True)
        self.assertIs(is_table(lag=0, value=digits, form=same), True)
        self.assertEqual(table(lag=0, form=same), digits)

    def test_a_table_without_keys(self):
        # Rows of one digit: with a lag of 1 nothing is written before the end.
        self.assertEqual(table(EMPTY, 1), {})
        self.assertEqual(table(EMPTY, 2), {})
        self.assertIs(is_table(EMPTY, 1, {}), True)
        self.assertIs(is_table(EMPTY, 0, {}), False)
        self.assertEqual(len(table(EMPTY, 0)), 1)
        self.assertIs(is_table(RECODED, 2, {}), False)

    def test_the_key_order_does_not_matter(self):
        for form, lag in [(RECODED, 1), (RECODED, 2), (SUM, 0), (DOUBLED, 0)]:
            given = table(form, lag)
            self.assertIs(is_table(form, lag, dict(list(given.items())[::-1])), True)
            self.assertIs(is_table(form, lag, dict(sorted(given.items(), key=repr))), True)

    def test_what_is_returned_may_be_changed(self):
        given = table(RECODED, 1)
        again = dict(given)
        given.clear()
        self.assertEqual(table(RECODED, 1), again)
        self.assertEqual(table(Form([(1, TWO)], signed()), 1), again)

    def test_lags(self):
        self.assertIsNone(table(RECODED, 0))
        for form in (RECODED, SUM):
            self.assertIsNotNone(table(form, 1))
            for wrong in no_lags(form) + [3, -1, True, False]:
                self.check_error(InvalidLag, "value", wrong, table, form, wrong)
                self.check_error(InvalidLag, "value", wrong, is_table, form, wrong, {})
                self.check_error(InvalidLag, "value", wrong, is_table, form, wrong, None)
        self.check_error(InvalidLag, "value", 2, table, SUM, 2)
        self.assertIsNotNone(table(RECODED, 2))

    def test_no_form(self):
        self.check_no_form(table, 1)
        self.check_no_form(is_table, 1, {})
        self.check_no_form(is_table, 7, {})
        self.check_no_form(least_lag)

    def test_interface(self):
        self.check_interface("oddfigures.machines", table, "(form, lag)")
        self.check_interface("oddfigures.machines", is_table, "(form, lag, value)")
        self.check_interface("oddfigures.machines", least_lag, "(form)")


class IsTableTest(Checks):
    def test_a_key_too_few_or_too_many(self):
        for form, lag in [(RECODED, 1), (RECODED, 2), (SUM, 0), (DOUBLED, 0), (DOUBLED, 1), (LAG_FORMS[2], 2)]:
            given = table(form, lag)
            for key in given:
                self.assertIs(is_table(form, lag, {other: given[other] for other in given if other != key}), False)
            position, reading = list(given)[-1]
            lasts, held, signs, carry, right = position
            for extra in [
                None, 0, "", "end", (), (position,), (position, reading, 0), (position, None), (position, END),
                position, reading,
                (reading, position), (position, (7,) * len(reading)), (position, (END,) * len(reading)),
                (position, reading + (0,)),
                ((lasts, held, signs, carry + 50, right), reading),
                ((lasts, held, signs, carry, None), reading + reading),
                ((lasts, held + (reading,) * 3, signs, carry, right), reading),
                ((lasts, held, (2,) * len(signs), carry, right), reading),
                ((lasts, held, signs, None, right), reading), ((lasts, held, signs, carry), reading),
                ((lasts, None, signs, carry, right), reading),
                ((None, held, signs, carry, right), reading), ((lasts, held, None, carry, right), reading),
                ((lasts, held, signs, carry, 9), reading),
                ((lasts, held, signs, carry, END), (END,) * len(reading)),
                (first_position(form), (None,) * len(reading)),
            ]:
                self.assertFalse(extra in given)
                for worth in (0, END, given[position, reading]):
                    self.assertIs(is_table(form, lag, {**given, extra: worth}), False, repr(extra))

    def test_nothing_is_written_before_the_lag(self):
        for form, lag in [(RECODED, 1), (RECODED, 2), (DOUBLED, 2)]:
            given = table(form, lag)
            start = first_position(form)
            for reading in readings_behind(form.terms, start[0]):
                self.assertNotIn((start, reading), given)
                for worth in (0, END, None):
                    self.assertIs(is_table(form, lag, {**given, (start, reading): worth}), False)

    def test_another_value(self):
        for form, lag in [(RECODED, 1), (SUM, 0), (DOUBLED, 1), (LAG_FORMS[1], 1),
            (Form([(1, TWO)], Scheme(2, [-1, 0, 1])), 0)]:
            given = table(form, lag)
            for key in list(given)[::1 + len(given) // 30]:
                for worth in [None, END, "END", "", 7, -1, 0, 1, True, False, (), [], {}, (0,), "0", TWO, form,
                    given[key]]:
                    value = {**given, key: worth}
                    is_right = worth == END or (worth.__class__ is int and worth in form.target.digits)
                    self.assertIs(is_table(form, lag, value), is_right and shows_table(form, lag, value), (key, worth))

    def test_true_is_no_integer(self):
        same = Form([(1, TWO)], TWO)
        given = table(same, 0)
        position = ((1,), (), (1,), 0, 1)
        self.assertIn((position, (1,)), given)
        # Each of these is equal to a key or a value of the table, as Python compares them.
        for wrong in [
            (((True,), (), (1,), 0, 1), (1,)), (((1,), (), (True,), 0, 1), (1,)), (((1,), (), (1,), False, 1), (1,)),
            (((1,), (), (1,), 0, True), (1,)), (position, (True,)),
        ]:
            value = {wrong if key == wrong else key: worth for key, worth in given.items()}
            self.assertEqual(value, given)
            self.assertIs(is_table(same, 0, value), False, wrong)
        for key in given:
            self.assertIs(is_table(same, 0, {**given, key: bool(given[key])}), False)
        later = table(RECODED, 1)
        for position, reading in later:
            lasts, held, signs, carry, right = position
            wrong = ((lasts, ((bool(held[0][0]),),), signs, carry, right), reading)
            value = {wrong if key == wrong else key: worth for key, worth in later.items()}
            self.assertEqual(value, later)
            self.assertIs(is_table(RECODED, 1, value), False)

    def test_tables_that_end_the_target(self):
        # END may be written when nothing is left, and is then written for ever.
        zeros = Form([(1, Scheme(2, [0]))], TWO)
        start, ended = first_position(zeros), ((0,), (), (1,), 0, END)
        given = {(start, (0,)): END, (ended, (0,)): END}
        self.assertIs(is_table(zeros, 0, given), True)
        self.assertIs(is_table(zeros, 0, {**given, (ended, (0,)): 0}), False)
        self.assertIs(is_table(zeros, 0, {(start, (0,)): END}), False)
        ones = Form([(1, TWO)], TWO)
        self.assertIs(is_table(ones, 0, {**table(ones, 0), (start, (0,)): END}), False)
        only = Form([(1, Scheme(2, [0]))], Scheme(2, [1]))
        self.assertEqual(table(only, 0), given)

    def test_tables_for_other_forms_and_lags(self):
        for form, lag in [(RECODED, 1), (RECODED, 2), (DOUBLED, 0), (DOUBLED, 1)]:
            for other, other_lag in [(RECODED, 0), (RECODED, 1), (RECODED, 2), (DOUBLED, 0), (DOUBLED, 1), (SUM, 0)]:
                self.assertIs(is_table(other, other_lag, table(form, lag)), (form, lag) == (other, other_lag))

    def test_positions_that_cannot_end(self):
        """Dicts with all keys, and values that may be written: they are wrong only where a position cannot end."""
        chance = random.Random(31)
        found = {True: 0, False: 0}
        for form in edge_forms() + mixed_forms(60, 15, seed=11):
            for lag in lags_of(form):
                if len(form.terms) == 2 and lag:
                    continue
                for _ in range(6):
                    given = chosen_table(chance, form, lag)
                    if given is not None:
                        expected = shows_table(form, lag, given)
                        self.assertIs(is_table(form, lag, given), expected, (told(form), lag))
                        found[expected] += 1
        self.assertGreater(min(found.values()), 50)

    def test_any_value(self):
        for form, lag in [(RECODED, 0), (RECODED, 1), (SUM, 0), (SUM, 1)]:
            for wrong in any_values() + [list(table(SUM, 1)), list(table(SUM, 1).items())]:
                self.assertIs(is_table(form, lag, wrong), False, repr(wrong))

    def test_what_is_handed_in_is_not_changed(self):
        given = table(RECODED, 1)
        is_table(RECODED, 1, given)
        self.assertEqual(given, table(RECODED, 1))
        wrong = {"a": [], 0: {}, **given}
        is_table(RECODED, 1, wrong)
        self.assertEqual(wrong, {"a": [], 0: {}, **given})


# Forms with about 300 states.
GREAT_FORMS = [
    (form_of([(2, "base -2; digits -8 -2 1 4 5 7")], "base -2; digits -2 -1 0 1 2; bars -2 1, -2 2, 1 -1, 2 -1, 2 1"),
        2),
    (form_of([(-2, "base 2; digits -3 -2 -1 0 2 3")], "base -2; digits -2 -1 0 1 2"), 2),
    (form_of([(2, "base 2; digits -3 -2 -1 0 2 3")], "base 2; digits -4 -3 -2 1 4 5"), 2),
    (form_of([(-2, "base 4; digits -8 -7 -5 1 2 9")], "base -4; digits -2 -1 0 1 2"), 2),
    (form_of([(2, "base -5; digits -9 4 9"), (-2, "base 5; digits -1 0 2; bars 2 2")], "base 5; digits -2 -1 0 1 2"),
        1),
]


class LimitsTest(Checks):
    def test_tables(self):
        for form, greatest in GREAT_FORMS:
            self.assertLessEqual(state_count(form), 300)
            self.assertIsNotNone(least_lag(form))
            for lag in range(greatest + 1):
                given = table(form, lag)
                if given is not None:
                    self.assertIs(is_table(form, lag, given), True)
                    key = list(given)[-1]
                    self.assertIs(is_table(form, lag, {other: given[other] for other in given if other != key}), False)

    def test_small_tables_by_the_words_of_the_document(self):
        for form, _ in GREAT_FORMS[:3]:
            given = table(form, 0) or table(form, 1)
            self.assertIsNotNone(table_positions(form, 0 if table(form, 0) else 1, given))
