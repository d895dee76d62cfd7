"""Refuters, which defeat every table [94]."""

import random

from oddfigures.errors import InvalidLag
from oddfigures.forms import Form, always_written, state_count
from oddfigures.machines import is_refuter, least_lag, refuter, table
from oddfigures.schemes import Scheme, plain_scheme
from tests.checks import Checks
from tests.form_reference import (
    END, LAG_FORMS, can_end, edge_forms, first_position, mixed_forms, shows_refuter, told,
)
from tests.test_failing import form_of
from tests.test_tables import lags_of, no_lags
from tests.values import GREAT, any_values, signed

TWO = plain_scheme(2)
RECODED = Form([(1, TWO)], signed())
ALONE = Form([(1, TWO), (-1, TWO)], TWO)
HALVES = Form([(1, TWO), (1, plain_scheme(-2))], Scheme(2, [0, 1, 2]))
# The first position of RECODED, and the refuter of the document's words.
FIRST = ((None,), (), (1,), 0, None)
READ_ONE = ((1,), (), (1,), 0, 1)
CARRIED = ((1,), (), (1,), 1, -1)
SMALL = [(FIRST, 2, (1,)), (READ_ONE, 1, (1,)), (CARRIED, 0, None)]


class RefuterTest(Checks):
    def check_refuter(self, form, lag, given):
        self.assertIs(given.__class__, list)
        for item in given:
            self.assertIs(item.__class__, tuple)
            position, rank, reading = item
            self.check_integers(rank, position[3], *position[2])
            self.assertIn(reading.__class__, (tuple, None.__class__))
        self.assertTrue(shows_refuter(form, lag, given), (told(form), lag))
        self.assertIs(is_refuter(form, lag, given), True)

    def test_a_refuter_just_where_there_is_no_table(self):
        found = {True: 0, False: 0}
        for form in edge_forms() + mixed_forms(150, 60, seed=12):
            for lag in lags_of(form):
                given = refuter(form, lag)
                self.assertIs(given is None, table(form, lag) is not None)
                found[given is None] += 1
                if given is not None:
                    self.check_refuter(form, lag, given)
        self.assertGreater(min(found.values()), 80)

    def test_each_lag(self):
        for lag, form in LAG_FORMS.items():
            for other in (0, 1, 2):
                given = refuter(form, other)
                self.assertIs(given is None, lag is not None and other >= lag)
                if given is not None:
                    self.check_refuter(form, other, given)

    def test_forms_that_are_not_always_written(self):
        for form in [*edge_forms(), ALONE]:
            if not always_written(form):
                for lag in lags_of(form):
                    self.check_refuter(form, lag, refuter(form, lag))

    def test_a_first_position_that_can_end(self):
        self.check_refuter(RECODED, 0, refuter(RECODED, 0))
        self.assertIsNone(refuter(form=RECODED, lag=1))
        self.assertIsNone(refuter(RECODED, 2))

    def test_what_is_returned_may_be_changed(self):
        given = refuter(RECODED, 0)
        again = list(given)
        given.clear()
        self.assertEqual(refuter(RECODED, 0), again)

    def test_lags(self):
        for form in (RECODED, ALONE):
            for wrong in no_lags(form) + [3, -1, True, False]:
                self.check_error(InvalidLag, "value", wrong, refuter, form, wrong)
                self.check_error(InvalidLag, "value", wrong, is_refuter, form, wrong, [])
                self.check_error(InvalidLag, "value", wrong, is_refuter, form, wrong, None)
        self.check_error(InvalidLag, "value", 2, refuter, ALONE, 2)

    def test_no_form(self):
        self.check_no_form(refuter, 1)
        self.check_no_form(is_refuter, 1, [])
        self.check_no_form(is_refuter, 7, [])

    def test_interface(self):
        self.check_interface("oddfigures.machines", refuter, "(form, lag)")
        self.check_interface("oddfigures.machines", is_refuter, "(form, lag, value)")


class IsRefuterTest(Checks):
    def test_the_smallest_one(self):
        self.assertTrue(shows_refuter(RECODED, 0, SMALL))
        for given in (SMALL, tuple(SMALL), SMALL[::-1], tuple(SMALL[1:] + SMALL[:1])):
            self.assertIs(is_refuter(RECODED, 0, given), True)
        self.assertIs(is_refuter(value=SMALL, lag=0, form=RECODED), True)

    def test_none_may_be_missing_or_doubled(self):
        for form, lag in [(RECODED, 0), (ALONE, 0), (ALONE, 1), (LAG_FORMS[2], 1), (LAG_FORMS[None], 2), (HALVES, 0)]:
            given = refuter(form, lag)
            if given is None:
                continue
            for at, item in enumerate(given):
                self.assertIs(is_refuter(form, lag, given[:at] + given[at + 1:]), False)
                self.assertIs(is_refuter(form, lag, given + [item]), False)
                position, rank, reading = item
                self.assertIs(is_refuter(form, lag, given + [(position, rank + 5, reading)]), False)
        self.assertIs(is_refuter(RECODED, 0, []), False)
        self.assertIs(is_refuter(RECODED, 0, ()), False)

    def test_ranks(self):
        for ranks, expected in [
            ((2, 1, 0), True), ((GREAT, 0, -GREAT), True), ((-1, -2, -3), True), ((9, 3, 2), True), ((2, 1, 1), True),
            ((1, 1, 0), False), ((2, 2, 1), False), ((0, 1, 2), False), ((1, 2, 0), False), ((5, 1, 5), False),
            ((5, 0, 1), True),
            ((2, 1, True), False), ((2, True, 0), False), ((True, False, -1), False), ((2, 1, None), False),
            (("2", "1", "0"), False),
            (((2,), (1,), (0,)), False),
        ]:
            given = [(position, rank, reading) for (position, _, reading), rank in zip(SMALL, ranks)]
            self.assertIs(is_refuter(RECODED, 0, given), expected, ranks)

    def test_a_position_that_can_end_needs_a_reading(self):
        self.assertTrue(can_end(RECODED, READ_ONE))
        self.assertFalse(can_end(RECODED, CARRIED))
        for reading, expected in [
            ((1,), True), ((0,), False), (None, False), ((END,), False), ((2,), False), ((True,), False), ([1], False),
            (1, False),
            ((1, 1), False), ((), False), ("1", False), ((None,), False),
        ]:
            given = [SMALL[0], (READ_ONE, 1, reading), SMALL[2]]
            self.assertIs(is_refuter(RECODED, 0, given), expected, reading)

    def test_a_position_that_cannot_end_may_have_a_reading(self):
        behind = ((1,), (), (1,), 1, 0)
        ended = ((1,), (), (1,), 1, END)
        self.assertEqual([can_end(RECODED, position) for position in (CARRIED, behind, ended)], [False, True, False])
        # Behind (0,) nothing may be written, and (1,) leads to the other two.
        self.assertIs(is_refuter(RECODED, 0, SMALL[:2] + [(CARRIED, 0, (0,))]), True)
        self.assertIs(is_refuter(RECODED, 0, SMALL[:2] + [(CARRIED, 0, (1,))]), False)
        given = SMALL[:2] + [(CARRIED, 0, (1,)), (behind, -1, (0,)), (ended, -1, None)]
        self.assertIs(is_refuter(RECODED, 0, given), False)
        self.assertFalse(shows_refuter(RECODED, 0, given))

    def test_a_reading_behind_which_nothing_may_be_written(self):
        # 1 stands left of nothing, so behind (1,) the digit 1 cannot be written.
        form = Form([(1, TWO)], Scheme(2, [0, 1], bars=[(0, 1), (1, 1)]))
        position = ((1,), (), (1,), 0, 1)
        given = [(FIRST, 1, (1,)), (position, 0, (1,))]
        self.assertTrue(shows_refuter(form, 0, given))
        self.assertIs(is_refuter(form, 0, given), True)
        self.assertIs(is_refuter(form, 0, [(FIRST, 1, (1,)), (position, 0, (0,))]), False)

    def test_positions_to_which_no_readings_lead(self):
        for extra, expected in [
            (((None,), (), (1,), 1, -1), True), (((END,), (), (-1,), 5, END), True),
            (((0,), (), (-1,), -GREAT, END), True),
            (((0,), (), (1,), 0, END), False), (((0,), (), (1,), 0, 0), False), (((7,), (), (1,), 5, END), False),
            (((0,), (), (1,), 5, 7), False), (((0,), (), (0,), 5, END), False), (((0,), (), (True,), 5, END), False),
            (((0,), (), (1,), True, END), False), (((0,), (), (1,), None, END), False),
            (((0,), ((0,),), (1,), 5, END), False),
            (((0,), [], (1,), 5, END), False), (([0], (), (1,), 5, END), False), (((0,), (), [1], 5, END), False),
            (((0, 0), (), (1,), 5, END), False), (((0,), (), (1, 1), 5, END), False), (((), (), (), 5, END), False),
            (((0,), (), (1,), 5), False), (((0,), (), (1,), 5, END, 0), False), (((False,), (), (1,), 5, END), False),
            (((0,), (), (1,), 5, False), False), (((0,), (), (1,), 5, "END"), False),
            (((0,), None, (1,), 5, END), False),
            (([], (), (1,), 5, END), False), (((0,), (), (1,), 5, []), False), ((([],), (), (1,), 5, END), False),
        ]:
            self.assertIs(is_refuter(RECODED, 0, SMALL + [(extra, 0, None)]), expected, extra)
            self.assertIs(is_refuter(RECODED, 0, [(extra, 0, None)] + SMALL), expected, extra)
        for sign in (1, -1, 0, 2, -2, True, None, "1", (1,)):
            extra = ((END,), (), (sign,), 5, END)
            expected = sign in (1, -1) and sign is not True
            self.assertIs(is_refuter(RECODED, 0, SMALL + [(extra, 0, None)]), expected, sign)
        extra = ((END,), (), (1,), 5, END)
        self.assertIs(is_refuter(RECODED, 0, SMALL + [(extra, 0, (0,))]), False)

    def test_held_readings(self):
        """Positions with readings held that no reading can have led to."""
        form = LAG_FORMS[None]
        given = refuter(form, 2)
        self.assertTrue(shows_refuter(form, 2, given))
        found = {True: 0, False: 0}
        for held in [
            (), ((0,),), ((1,),), ((END,),), ((1,), (0,)), ((1,), (1,)), ((END,), (1,)), ((1,), (END,)),
            ((END,), (END,)),
        ]:
            for lasts in ((None,), (0,), (END,)):
                for sign in (1, -1):
                    for carry in (-3, -1, 0, 2):
                        for right in (None, 1, END):
                            extra = (lasts, held, (sign,), carry, right)
                            value = given + [(extra, 0, None)]
                            expected = shows_refuter(form, 2, value)
                            self.assertIs(is_refuter(form, 2, value), expected, extra)
                            found[expected] += 1
        self.assertGreater(min(found.values()), 30)
        for held in [((2,),), ((True,),), ([1],), (1,), ((1, 1),), ((),), ((None,),), ((1,),) * 3, ("1",),
            ((1,), None), "11", {}]:
            extra = ((0,), held, (1,), -5, END)
            self.assertIs(is_refuter(form, 2, given + [(extra, 0, None)]), False, held)
        self.assertIs(is_refuter(form, 2, given + [(((0,), ((1,), (1,)), (1,), -50, END), 0, None)]), True)
        self.assertIs(is_refuter(form, 1, refuter(form, 1) + [(((0,), ((1,), (1,)), (1,), -50, END), 0, None)]), False)

    def test_what_is_held_counts_in_the_base_of_its_term(self):
        # -2 + 4 times 1 at the second place, by the base of the term, with its sign before the reading.
        form = Form([(2, plain_scheme(-2)), (-1, plain_scheme(2))], Scheme(2, [0]))
        for held, signs, carry, expected in [
            (((1, 1),), (1, 1), -1, True), (((1, 1),), (-1, 1), 3, True), (((1, 1),), (1, -1), -3, True),
            (((1, 1),), (1, 1), 1, False),
            (((1, END),), (1, 1), -2, True), (((END, 1),), (1, 1), 1, True), (((END, 1),), (1, -1), 1, False),
        ]:
            position = ((0, 0), held, signs, carry, None)
            self.assertIs(can_end(form, position), expected)
            given = refuter(form, 1)
            self.assertIs(is_refuter(form, 1, given + [(position, 0, None)]), not expected)

    def test_changed_items(self):
        chance = random.Random(41)
        found = {True: 0, False: 0}
        for form in edge_forms() + mixed_forms(80, 60, seed=13):
            for lag in lags_of(form):
                given = refuter(form, lag)
                if given is None or len(given) > 60:
                    continue
                for _ in range(12):
                    value = self.changed(chance, form, lag, given)
                    expected = shows_refuter(form, lag, value)
                    self.assertIs(is_refuter(form, lag, value), expected, (told(form), lag, value))
                    found[expected] += 1
        self.assertGreater(min(found.values()), 100)

    def changed(self, chance, form, lag, given):
        """The items with one thing otherwise, each of the right kind."""
        at = chance.randrange(len(given))
        (lasts, held, signs, carry, right), rank, reading = given[at]
        readings = [tuple(chance.choice([*scheme.digits, END]) for _, scheme in form.terms) for _ in range(2)]
        what = chance.randrange(9)
        if what == 0:
            rank = rank + chance.choice((-2, -1, 1, 2))
        elif what == 1:
            reading = chance.choice([None, readings[0]])
        elif what == 2:
            carry = carry + chance.choice((-2, -1, 1, 2))
        elif what == 3:
            right = chance.choice([None, END, *form.target.digits])
        elif what == 4:
            held = tuple(readings[:chance.randint(0, lag)])
        elif what == 5:
            lasts = chance.choice([readings[0], tuple(None for _ in lasts)])
        elif what == 6:
            signs = tuple(chance.choice((1, -1)) for _ in signs)
        changed = ((lasts, held, signs, carry, right), rank, reading)
        if what == 7 or chance.random() < 0.4:
            return given + [changed]
        return given[:at] + [changed] + given[at + 1:]

    def test_one_thing_of_another_kind(self):
        position, rank, reading = SMALL[0]
        for other in [
            None, True, 0, "", "end", [], (), {}, TWO, RECODED, SMALL[0][:2], list(SMALL[0]), SMALL[0] + (None,),
            (position, None, reading),
            (position, True, reading), (position, rank, list(reading)), (position, rank, 1), (position, rank, {}),
            (None, rank, reading),
            (list(position), rank, reading), (RECODED, rank, reading), ([], rank, reading), ({}, rank, None),
            (position, [], reading),
        ]:
            self.assertIs(is_refuter(RECODED, 0, [other] + SMALL[1:]), False, repr(other))
            self.assertIs(is_refuter(RECODED, 0, SMALL + [other]), False, repr(other))

    def test_for_other_forms_and_lags(self):
        for other in (1, 2):
            self.assertIs(is_refuter(RECODED, other, SMALL), False)
            self.assertIs(is_refuter(RECODED, other, refuter(RECODED, 0)), False)
        self.assertIs(is_refuter(Form([(1, TWO)], TWO), 0, SMALL), False)
        self.assertIs(is_refuter(Form([(-1, TWO)], signed()), 0, SMALL), False)

    def test_any_value(self):
        for form, lag in [(RECODED, 0), (RECODED, 1), (ALONE, 0), (ALONE, 1)]:
            for wrong in any_values():
                self.assertIs(is_refuter(form, lag, wrong), False, repr(wrong))
                self.assertIs(is_refuter(form, lag, [wrong]), False, repr(wrong))

    def test_what_is_handed_in_is_not_changed(self):
        given = list(SMALL)
        is_refuter(RECODED, 0, given)
        self.assertEqual(given, SMALL)
        wrong = [SMALL[0], [READ_ONE, {"a": []}, None]]
        is_refuter(RECODED, 0, wrong)
        self.assertEqual(wrong, [SMALL[0], [READ_ONE, {"a": []}, None]])


class LimitsTest(Checks):
    def test_forms_of_300_states(self):
        for terms, target in [
            ([(-2, "base -2; digits -4 -1 5; bars -4 -1, 5 -4")], "base -2; digits 0 2 3; bars 0 2"),
            (
                [(-2, "base 2; digits -3 0 5; bars -3 -3, -3 0, 0 -3, 0 0, 5 0")],
                "base 2; digits -5 -4 -1 3 9; bars -5 9, -4 -4, -4 -1, -4 3, -4 9, -1 9, 3 -5, 3 -1, 3 9, 9 -4, 9 -1, "
                "9 9",
            ),
            (
                [(-2, "base -2; digits -1 0; bars -1 0, 0 -1"), (-2, "base 2; digits -2")],
                "base 2; digits -4 -3 -2 0 3 4; bars -4 -4, -4 -2, -4 4, -3 -3, -3 -2, -3 3, -2 4, 0 -4, 0 -3, 0 -2, "
                "0 4, 3 -4, 3 3, 3 4, 4 -4, 4 -2, 4 3",
            ),
        ]:
            form = form_of(terms, target)
            self.assertLessEqual(state_count(form), 300)
            for lag in lags_of(form):
                given = refuter(form, lag)
                self.assertIs(given is None, table(form, lag) is not None)
                if given is not None:
                    self.assertTrue(shows_refuter(form, lag, given))
                    self.assertIs(is_refuter(form, lag, given), True)
            self.assertIn(least_lag(form), (None, 0, 1, 2))

    def test_5000_items(self):
        extras = [(((END,), (), (1,), k + 1, END), k, None) for k in range(4997)]
        self.assertIs(is_refuter(RECODED, 0, SMALL + extras), True)
        self.assertIs(is_refuter(RECODED, 0, SMALL + extras[:-1] + [(((END,), (), (1,), 0, END), 0, None)]), False)
