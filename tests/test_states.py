"""The states of forms, and the readings that lead from one to another [7], [8], [9], [72], [73]."""

from oddfigures.errors import InvalidLength, InvalidReading, InvalidState, TooMany
from oddfigures.forms import Form, state_count
from oddfigures.schemes import Scheme, plain_scheme
from tests.checks import Checks, no_integers_within
from tests.form_reference import (
    END, edge_forms, first_state, mixed_forms, readings_behind, state_behind, states_of, told,
)
from tests.values import GREAT, any_values, signed

TWO = plain_scheme(2)
RECODED = Form([(1, TWO)], signed())
SUM = Form([(1, TWO), (-2, plain_scheme(-2))], signed())
# Forms with so many states.
FULL = Form([(1, Scheme(-2, [-5, 0, 2])), (-2, Scheme(2, [-3, 4]))], Scheme(2, [-8, -1, 0, 7]))
OVER = Form([(1, Scheme(2, [-2, -1, 2, 3])), (1, Scheme(-2, [-6, -5, -4, 3, 6]))], Scheme(-2, [-2, -1, 0, 1, 2]))
FAR_OVER = Form([(2, Scheme(2, [-9, -5, -1, 3, 4, 8])), (-2, Scheme(-2, [-9, -7, -2, 1, 6, 9]))],
    Scheme(2, [-9, -4, 1, 2, 5, 7]))


class StatesTest(Checks):
    def check_state(self, form, state):
        lasts, signs, carries = state
        for part in (state, lasts, signs, carries, *carries):
            self.assertIs(part.__class__, tuple)
        self.assertEqual((len(lasts), len(signs)), (len(form.terms), len(form.terms)))
        self.check_integers(*signs, *[carry for carry, _ in carries])
        self.check_integers(*[right for _, right in carries if right not in (None, END)])

    def test_the_first_state(self):
        for form in edge_forms():
            self.check_state(form, form.start())
            self.assertEqual(form.start(), first_state(form.terms))
        self.assertEqual(RECODED.start(), ((None,), (1,), ((0, None),)))
        self.assertEqual(SUM.start(), ((None, None), (1, 1), ((0, None),)))
        self.assertEqual(FAR_OVER.start(), ((None, None), (1, 1), ((0, None),)))

    def test_all_readings_of_all_states(self):
        for form in edge_forms() + mixed_forms(80, 120, seed=3):
            for state in states_of(form):
                readings = form.readings(state)
                self.assertIs(readings.__class__, list)
                self.assertEqual(readings, readings_behind(form.terms, state[0]), told(form))
                for reading in readings:
                    behind = form.after(state, reading)
                    self.check_state(form, behind)
                    self.assertEqual(behind, state_behind(form.terms, form.target, state, reading), told(form))

    def test_readings_of_one_term(self):
        self.assertEqual(RECODED.readings(RECODED.start()), [(0,), (1,)])
        naf = Form([(2, signed())], TWO)
        start = naf.start()
        self.assertEqual(naf.readings(start), [(-1,), (0,), (1,)])
        self.assertEqual(naf.readings(naf.after(start, (1,))), [(0,)])
        self.assertEqual(naf.readings(naf.after(start, (0,))), [(-1,), (0,), (1,)])
        stuck = Form([(1, Scheme(2, [0, 1], bars=[(0, 1), (1, 1)]))], TWO)
        self.assertEqual(stuck.readings(stuck.after(stuck.start(), (1,))), [])

    def test_readings_of_two_terms(self):
        start = SUM.start()
        self.assertEqual(
            SUM.readings(start), [(0, 0), (0, 1), (0, END), (1, 0), (1, 1), (1, END), (END, 0), (END, 1)],
        )
        ended = SUM.after(start, (1, END))
        self.assertEqual(SUM.readings(ended), [(0, END), (1, END)])
        self.assertEqual(SUM.readings(SUM.after(start, (END, 1))), [(END, 0), (END, 1)])

    def test_signs(self):
        form = Form([(1, TWO), (1, plain_scheme(-2))], Scheme(-2, [-1, 0, 1]))
        state = form.after(form.start(), (0, 0))
        self.assertEqual(state[1], (-1, 1))
        state = form.after(state, (0, 0))
        self.assertEqual(state[1], (1, 1))
        self.assertEqual(form.after(state, (0, END))[1], (-1, 1))
        state = form.after(form.after(form.start(), (0, END)), (1, END))
        self.assertEqual(state[0:2], ((1, END), (1, 1)))
        self.assertEqual(form.after(form.after(form.start(), (1, 0)), (END, 1))[1], (1, 1))

    def test_the_end_of_the_target(self):
        form = Form([(1, TWO)], TWO)
        state = form.after(form.start(), (0,))
        self.assertEqual(state, ((0,), (1,), ((0, 0), (0, END))))
        # Behind END only END is written.
        only = Form([(1, TWO)], Scheme(2, [1]))
        self.assertEqual(only.after(only.start(), (0,)), ((0,), (1,), ((0, END),)))
        later = only.after(only.after(only.start(), (0,)), (1,))
        self.assertEqual(later, ((1,), (1,), ()))
        self.assertEqual(only.after(later, (0,)), ((0,), (1,), ()))
        doubled = Form([(2, TWO)], Scheme(2, [1]))
        self.assertEqual(doubled.after(doubled.start(), (1,)), ((1,), (1,), ((1, END),)))

    def test_what_is_returned_may_be_changed(self):
        readings = RECODED.readings(RECODED.start())
        readings.append(None)
        readings[0] = (5,)
        self.assertEqual(RECODED.readings(RECODED.start()), [(0,), (1,)])
        self.assertEqual(Form([(1, TWO)], signed()).readings(state=RECODED.start()), [(0,), (1,)])

    def test_by_name(self):
        self.assertEqual(RECODED.after(reading=(1,), state=RECODED.start()), RECODED.after(RECODED.start(), (1,)))


class WrongStatesTest(Checks):
    def check_no_state(self, form, wrong):
        self.check_error(InvalidState, "state", wrong, form.readings, wrong)
        self.check_error(InvalidState, "state", wrong, form.after, wrong, (1,))
        self.check_error(InvalidState, "state", wrong, form.after, wrong, None)

    def test_any_value(self):
        for form in (RECODED, SUM):
            for wrong in any_values():
                self.check_no_state(form, wrong)

    def test_one_thing_otherwise(self):
        form = Form([(1, TWO)], signed())
        lasts, signs, carries = ((1,), (1,), ((0, 1), (1, -1)))
        self.assertEqual(form.readings((lasts, signs, carries)), [(0,), (1,)])
        for wrong in [
            (lasts, signs), (lasts, signs, carries, ()), [lasts, signs, carries], (list(lasts), signs, carries),
            (lasts, [1], carries), (lasts, signs, list(carries)), (lasts, signs, ([0, 1], (1, -1))),
            (lasts, signs, carries[::-1]), (lasts, signs, carries[:1]), (lasts, signs, carries + carries[1:]),
            (lasts, signs, carries + ((2, 0),)), (lasts, signs, ()), ((True,), signs, carries),
            (lasts, (True,), carries),
            (lasts, signs, ((False, 1), (1, -1))), (lasts, signs, ((0, True), (1, -1))), ((-1,), signs, carries),
            ((None,), signs, carries), ((END,), signs, carries), (lasts, (-1,), carries), (lasts, (0,), carries),
            (lasts, signs, ((0, 1), (1, END))), (lasts, signs, ((0, 1), (1, None))),
            (lasts, signs, ((0, 1), (GREAT, -1))),
            (lasts, signs, ((0, 1), (1, -1, 0))), (lasts, signs, ((0, 1), 1)), (lasts, signs, carries[0]),
            ((1, 1), (1, 1), carries), ((), (), carries), (lasts, (1, 1), carries), ((2,), signs, carries),
            ({}, signs, carries),
            (lasts, signs, {}), (lasts, None, carries), (lasts, signs, (([], 1), (1, -1))),
            (lasts, signs, ((0, []), (1, -1))),
            (([],), signs, carries), ((None,), (1,), ((False, None),)), ((None,), (True,), ((0, None),)),
            ((None,), (1,), ((0, None), (0, None))), ((None,), (1,), ((0, END),)), ((END,), (1,), ((0, END),)),
        ]:
            self.check_no_state(form, wrong)
        # What may have been told of wrong states changes nothing.
        self.assertEqual(form.after((lasts, signs, carries), (1,)), ((1,), (1,), ((1, 0), (1, END))))

    def test_states_of_other_forms(self):
        for state in states_of(SUM):
            self.check_no_state(RECODED, state)
        other = Form([(2, TWO)], signed())
        known = states_of(RECODED)
        for state in states_of(other):
            if state not in known:
                self.check_no_state(RECODED, state)

    def test_no_reading(self):
        for form, state in [(RECODED, RECODED.start()), (SUM, SUM.start()), (SUM, SUM.after(SUM.start(), (1, END)))]:
            allowed = readings_behind(form.terms, state[0])
            for wrong in any_values() + [
                [0], [1], (2,), (-1,), (True,), (False,), (END,), (None,), ("1",), (1, 1, 1), ((1,),),
                (0, True), (False, END), (END, END), (1, "End"), (1, ""), (1, None), [1, END], (END, 2), (2, END),
                (1, []),
            ]:
                # True is equal to 1 for Python, but no digit.
                if repr(wrong) in [repr(reading) for reading in allowed]:
                    continue
                self.check_error(InvalidReading, "reading", wrong, form.after, state, wrong)

    def test_readings_that_may_not_follow(self):
        naf = Form([(1, signed()), (1, TWO)], TWO)
        state = naf.after(naf.start(), (1, END))
        for wrong in ((1, END), (-1, END), (0, 0), (0, 1), (END, END), (END, 0)):
            self.check_error(InvalidReading, "reading", wrong, naf.after, state, wrong)
        self.assertEqual(naf.readings(state), [(0, END)])
        state = naf.after(naf.start(), (1, 0))
        for wrong in ((1, 0), (-1, END), (1, END)):
            self.check_error(InvalidReading, "reading", wrong, naf.after, state, wrong)
        self.assertEqual(naf.readings(state), [(0, 0), (0, 1), (0, END), (END, 0), (END, 1)])


class CountTest(Checks):
    def test_counts(self):
        for form in edge_forms() + mixed_forms(60, 300, seed=4):
            found = state_count(form)
            self.check_integers(found)
            self.assertEqual(found, len(states_of(form)), told(form))
            self.assertEqual(state_count(form, found), found)
            fewer = found - 1
            if fewer:
                self.check_error(TooMany, "most", fewer, state_count, form, fewer)

    def test_most(self):
        single = Form([(1, Scheme(2, [0]))], Scheme(2, [0]))
        self.assertEqual(state_count(single), 2)
        self.assertEqual(state_count(single, most=2), 2)
        with self.assertRaises(TooMany) as caught:
            state_count(form=single, most=1)
        self.assertEqual(caught.exception.most, 1)
        self.assertEqual(state_count(RECODED, 2000), state_count(RECODED))

    def test_the_limit(self):
        self.assertEqual(state_count(FULL), 2000)
        self.assertEqual(state_count(FULL, 2000), 2000)
        for most in (1, 1000, 1999):
            self.check_error(TooMany, "most", most, state_count, FULL, most)
        for form in (OVER, FAR_OVER):
            for most in (1, 1000, 2000):
                self.check_error(TooMany, "most", most, state_count, form, most)
            with self.assertRaises(TooMany) as caught:
                state_count(form)
            self.assertEqual(caught.exception.most, 2000)

    def test_most_that_is_none(self):
        for wrong in [*no_integers_within(1, 2000), 0, 2001, -1, 2002]:
            self.check_error(InvalidLength, "length", wrong, state_count, RECODED, wrong)
            self.check_error(InvalidLength, "length", wrong, state_count, FAR_OVER, wrong)

    def test_no_form(self):
        self.check_no_form(state_count)
        self.check_no_form(state_count, 5)
        self.check_no_form(state_count, 0)

    def test_interface(self):
        self.check_interface("oddfigures.forms", state_count, "(form, most=2000)")
