"""Papers that show that forms are always written [74]."""

import random

from oddfigures.forms import Form, always_written, is_paper, paper
from oddfigures.schemes import Scheme, plain_scheme
from tests.checks import Checks
from tests.form_reference import (
    END, edge_forms, first_lengths_not_written, mixed_forms, shows_always_written, states_of, told,
)
from tests.values import GREAT, any_values, signed

TWO = plain_scheme(2)
RECODED = Form([(1, TWO)], signed())
HALVES = Form([(1, TWO), (1, plain_scheme(-2))], Scheme(-2, [-1, 0, 1]))
NOT_WRITTEN = Form([(-1, TWO)], TWO)


def depth_for(form):
    """A length up to which all rows of the form can be gone through."""
    many = 1
    for _, scheme in form.terms:
        many = many * (len(scheme) + 1)
    return 5 if many <= 3 else 4 if many <= 4 else 3 if many <= 9 else 2


class PaperTest(Checks):
    def test_a_paper_just_where_the_form_is_always_written(self):
        found = {True: 0, False: 0}
        for form in edge_forms() + mixed_forms(120, 60, seed=5):
            given = paper(form)
            self.assertIs(always_written(form), given is not None)
            found[always_written(form)] += 1
            if given is None:
                self.assertIs(is_paper(form, states_of(form)), False)
                continue
            self.assertIs(given.__class__, list)
            self.assertTrue(shows_always_written(form, given), told(form))
            self.assertIs(is_paper(form, given), True)
            self.assertIsNone(first_lengths_not_written(form, depth_for(form)), told(form))
        self.assertGreater(min(found.values()), 30)

    def test_some_forms(self):
        for terms, target, expected in [
            ([(1, TWO)], signed(), True), ([(-2, TWO)], signed(), True), ([(1, signed())], TWO, False),
            ([(1, signed()), (-2, signed())], signed(), True), ([(1, TWO), (1, TWO)], TWO, True),
            ([(1, TWO), (-1, TWO)], TWO, False), ([(1, TWO), (-1, TWO)], plain_scheme(-2), True),
            ([(1, TWO)], Scheme(2, [0, 2]), False), ([(2, TWO)], Scheme(2, [0, 2]), True),
            ([(2, Scheme(2, [0, 1]))], Scheme(2, [0, 2, 1], bars=[(1, 1)]), True),
            ([(1, Scheme(2, [0]))], Scheme(2, [1]), True), ([(1, Scheme(2, [1]))], Scheme(2, [1]), True),
            ([(-1, Scheme(2, [1]))], Scheme(2, [1]), False), ([(-1, Scheme(2, [1]))], Scheme(2, [-1]), True),
        ]:
            self.assertIs(always_written(Form(terms, target)), expected, (terms, str(target)))

    def test_what_is_returned_may_be_changed(self):
        given = paper(RECODED)
        again = list(given)
        given.clear()
        self.assertEqual(paper(RECODED), again)
        self.assertEqual(paper(form=Form([(1, TWO)], signed())), again)

    def test_no_form(self):
        for function in (always_written, paper):
            self.check_no_form(function)
        self.check_no_form(is_paper, [])
        self.check_no_form(is_paper, paper(RECODED))

    def test_interface(self):
        self.check_interface("oddfigures.forms", always_written, "(form)")
        self.check_interface("oddfigures.forms", paper, "(form)")
        self.check_interface("oddfigures.forms", is_paper, "(form, value)")


class IsPaperTest(Checks):
    def check_as_told(self, form, given):
        self.assertIs(is_paper(form, given), shows_always_written(form, given), (told(form), given))

    def test_another_order_and_tuples(self):
        for form in (RECODED, HALVES, Form([(2, plain_scheme(3))], Scheme(3, [-7, 0, 1]))):
            given = states_of(form)
            turned = [given[0]] + given[:0:-1]
            for value in (given, tuple(given), turned, tuple(turned)):
                self.assertIs(is_paper(form, value), True)
            self.assertIs(is_paper(value=given, form=form), True)

    def test_the_first_item_is_the_first_state(self):
        for form in (RECODED, HALVES):
            given = states_of(form)
            for value in (given[1:], given[1:] + given[:1], given[::-1], [], ()):
                self.assertIs(is_paper(form, value), False)
            start = given[0]
            lasts, signs, carries = start
            for other in (
                (lasts, signs, carries * 2), (lasts, signs, ()), (lasts, signs, carries + ((0, END),)),
                (lasts, signs, ((0, END),)), given[1],
            ):
                self.assertIs(is_paper(form, [other] + given), False)
                self.assertIs(is_paper(form, [other] + given[1:]), False)

    def test_items_may_stand_there_twice(self):
        given = states_of(RECODED)
        self.assertIs(is_paper(RECODED, given + given), True)
        self.assertIs(is_paper(RECODED, given[:1] * 3 + given), True)

    def test_the_order_of_carries_and_pairs_that_stand_there_twice(self):
        for form in (RECODED, HALVES):
            given = states_of(form)
            for change in (lambda pairs: pairs[::-1], lambda pairs: pairs * 2, lambda pairs: pairs + pairs[:1]):
                value = given[:1] + [(lasts, signs, change(carries)) for lasts, signs, carries in given[1:]]
                self.assertIs(is_paper(form, value), True)

    def test_none_may_be_missing(self):
        for at, state in enumerate(states_of(RECODED)):
            self.assertIs(is_paper(RECODED, [other for other in states_of(RECODED) if other != state]), False, at)
        for form in (HALVES, Form([(2, plain_scheme(3))], Scheme(3, [-7, 0, 1]))):
            given = states_of(form)
            for at in range(len(given)):
                self.check_as_told(form, given[:at] + given[at + 1:])
            # All that have the same lasts.
            for lasts, _, _ in given:
                self.assertIs(is_paper(form, [item for item in given if item[0] != lasts]), False)

    def test_fewer_carries(self):
        # Fewer pairs show as much, as long as one is open and the pairs behind them do.
        form = Form([(1, TWO)], Scheme(2, [-1, 0, 1]))
        given = states_of(form)
        smaller = [
            given[0], ((0,), (1,), ((0, 0),)), ((1,), (1,), ((0, 1),)),
        ]
        self.assertIs(is_paper(form, smaller), True)
        self.assertTrue(shows_always_written(form, smaller))
        self.assertIs(is_paper(form, [given[0], ((0,), (1,), ((0, 0), (0, END))), ((1,), (1,), ((0, 1),))]), True)
        # An END that is not open makes no harm, and helps nobody.
        self.assertIs(is_paper(form, [given[0], ((0,), (1,), ((0, END),)), ((1,), (1,), ((0, 1),))]), False)
        # A pair more than there is behind the items before it.
        self.assertIs(is_paper(form, [given[0], ((0,), (1,), ((0, 0), (5, 0))), ((1,), (1,), ((0, 1),))]), False)

    def test_items_to_which_no_readings_lead(self):
        form = Form([(1, TWO)], Scheme(2, [-1, 0, 1]))
        smaller = [form.start(), ((0,), (1,), ((0, 0),)), ((1,), (1,), ((0, 1),))]
        for extra in [
            ((None,), (1,), ((0, None),)), ((None,), (1,), ((0, 0),)), ((0,), (1,), ((0, 1),)),
            ((1,), (1,), ((0, -1), (5, 5))),
            ((END,), (1,), ((0, END),)), ((END,), (-1,), ((0, END), (9, 1))), ((END,), (1,), ((1, END),)),
            ((END,), (1,), ()),
            ((0,), (-1,), ((0, 0),)), ((0,), (1,), ((GREAT, 0),)), ((END,), (1,), ((GREAT, 0),)),
            ((END,), (1,), ((GREAT, END),)),
            ((END,), (-1,), ((-1, None), (0, END))), ((1,), (1,), ((0, None),)), ((0,), (1,), ((0, END),)),
        ]:
            is_right = all(pair[1] in (None, END, -1, 0, 1) for pair in extra[2])
            for value in (smaller + [extra], smaller[:1] + [extra] + smaller[1:]):
                self.assertIs(is_paper(form, value), is_right and shows_always_written(form, value), extra)
        for sign in (1, -1, 0, 2, -2, True, None, "1", (1,)):
            extra = ((END,), (sign,), ((0, END),))
            self.assertIs(is_paper(form, smaller + [extra]), sign in (1, -1) and sign is not True, sign)
        self.assertIs(is_paper(form, smaller + [((END,), (1,), ((GREAT, 0),))]), True)
        self.assertIs(is_paper(form, smaller + [((END,), (1,), ((GREAT, END),))]), False)

    def test_another_item_with_the_same_lasts(self):
        # At least one of the items fits.
        form = Form([(1, TWO)], Scheme(2, [-1, 0, 1]))
        smaller = [form.start(), ((0,), (1,), ((0, 0),)), ((1,), (1,), ((0, 1),))]
        for pairs, alone in [(((1, -1), (0, 1)), True), (((0, 1), (1, 1)), False), (((5, -1), (0, 1)), False)]:
            other = ((1,), (1,), pairs)
            self.assertIs(is_paper(form, smaller + [other]), True)
            self.assertIs(is_paper(form, [smaller[0], other] + smaller[1:]), True)
            self.assertIs(is_paper(form, smaller[:2] + [other]), alone)

    def test_changed_items(self):
        chance = random.Random(21)
        found = {True: 0, False: 0}
        for form in [*edge_forms(), *mixed_forms(40, 30, seed=6)]:
            given = states_of(form)
            if len(given) > 40:
                continue
            for _ in range(30):
                value = self.changed(chance, form, given)
                self.check_as_told(form, value)
                found[is_paper(form, value)] += 1
        self.assertGreater(min(found.values()), 100)

    def changed(self, chance, form, given):
        """The items with one thing otherwise."""
        at = chance.randrange(len(given))
        lasts, signs, carries = given[at]
        pairs = list(carries)
        what = chance.randrange(7)
        if what == 0 and len(pairs) > 1:
            pairs.pop(chance.randrange(len(pairs)))
        elif what == 1:
            pairs.append((chance.randint(-2, 2), chance.choice([None, END, *form.target.digits])))
        elif what == 2:
            pairs.reverse()
        elif what == 3:
            signs = tuple(-sign for sign in signs)
        elif what == 4:
            lasts = tuple(chance.choice([None, END, *scheme.digits]) for _, scheme in form.terms)
        elif what == 5 and pairs:
            pairs[0] = (pairs[0][0] + chance.choice((-1, 1)), pairs[0][1])
        changed = (lasts, signs, tuple(pairs))
        if chance.random() < 0.4:
            return given + [changed]
        return given[:at] + [changed] + given[at + 1:]

    def test_one_thing_of_another_kind(self):
        for form in (RECODED, HALVES):
            given = states_of(form)
            lasts, signs, carries = given[-1]
            carry, right = carries[0]
            for other in [
                None, True, 0, "", "end", [], (), {}, TWO, form, given[-1][:2], list(given[-1]), given[-1] + (None,),
                (list(lasts), signs, carries), (lasts, list(signs), carries), (lasts, signs, list(carries)),
                (lasts + (0,), signs, carries), (lasts[1:], signs, carries), (lasts, signs + (1,), carries),
                (lasts, (), carries),
                (lasts, (0,) * len(signs), carries), (lasts, (2,) * len(signs), carries),
                (lasts, (True,) * len(signs), carries),
                (lasts, (None,) * len(signs), carries), ((7,) * len(signs), signs, carries),
                ((True,) * len(signs), signs, carries),
                (("",) * len(signs), signs, carries), (([],) * len(signs), signs, carries),
                ((TWO,) * len(signs), signs, carries),
                (lasts, signs, carries + (carry,)), (lasts, signs, carries + ((carry,),)),
                (lasts, signs, carries + ((carry, right, 0),)),
                (lasts, signs, carries + ([carry, right],)), (lasts, signs, carries + ((None, right),)),
                (lasts, signs, carries + ((True, right),)), (lasts, signs, carries + ((carry, 5),)),
                (lasts, signs, carries + ((carry, True),)),
                (lasts, signs, carries + ((carry, "End"),)), (lasts, signs, carries + ((carry, []),)),
                (lasts, signs, carries + (([], right),)),
                (lasts, signs, None), (lasts, None, carries), (None, signs, carries), (lasts, signs, {carry: right}),
            ]:
                self.assertIs(is_paper(form, given + [other]), False, repr(other))
                self.assertIs(is_paper(form, given[:-1] + [other]), False, repr(other))
                self.assertIs(is_paper(form, [other] + given[1:]), False, repr(other))
        # As a first state, this is equal to the right one, but True is no integer.
        given = states_of(RECODED)
        self.assertIs(is_paper(RECODED, [((None,), (True,), ((0, None),))] + given[1:]), False)
        self.assertIs(is_paper(RECODED, [((None,), (1,), ((False, None),))] + given[1:]), False)

    def test_any_value(self):
        for form in (RECODED, HALVES, NOT_WRITTEN):
            for wrong in any_values():
                self.assertIs(is_paper(form, wrong), False, repr(wrong))
                self.assertIs(is_paper(form, [form.start(), wrong]), False, repr(wrong))

    def test_no_paper_for_what_is_not_always_written(self):
        given = states_of(NOT_WRITTEN)
        self.assertIs(is_paper(NOT_WRITTEN, given), False)
        self.assertIs(is_paper(NOT_WRITTEN, states_of(RECODED)), False)
        self.assertIs(is_paper(RECODED, states_of(Form([(2, TWO)], signed()))), False)

    def test_what_is_handed_in_is_not_changed(self):
        given = states_of(RECODED)
        is_paper(RECODED, given)
        self.assertEqual(given, states_of(RECODED))
        wrong = [given[0], [list(given[1]), {"a": []}]]
        is_paper(RECODED, wrong)
        self.assertEqual(wrong, [given[0], [list(given[1]), {"a": []}]])
