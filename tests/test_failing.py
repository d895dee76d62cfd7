"""Rows whose value a target does not write [75]; forms with as many states as there may be [10]."""

from oddfigures.forms import Form, always_written, failing, is_paper, paper, state_count
from oddfigures.places import is_written
from oddfigures.schemes import Scheme, plain_scheme
from tests.checks import Checks
from tests.form_reference import END, edge_forms, first_lengths_not_written, mixed_forms, states_of, told, value_of
from tests.reference import is_open, is_row
from tests.test_papers import depth_for
from tests.values import signed

TWO = plain_scheme(2)


def form_of(terms, target):
    return Form([(factor, Scheme.read(text)) for factor, text in terms], Scheme.read(target))


# Always written, with 2,000 or nearly so many states.
WRITTEN = [
    form_of([(1, "base -2; digits -5 0 2"), (-2, "base 2; digits -3 4")], "base 2; digits -8 -1 0 7"),
    form_of(
        [(-2, "base 2; digits -1 0 1"), (-2, "base 2; digits -3 2 3 8; bars -3 3, -3 8, 2 8, 3 -3, 3 8, 8 -3, 8 3")],
        "base 2; digits -4 0 1",
    ),
    form_of([(2, "base -2; digits -5 -3 5")], "base 2; digits -6 -1 0 9; bars 0 -1"),
    form_of(
        [(-1, "base 3; digits 0 1; bars 1 1"), (-1, "base 3; digits -4 0 2 4 5")],
        "base 3; digits -8 -1 0 1 5; bars 5 1",
    ),
]
# Not always written, with so many states.
NOT_WRITTEN = [
    form_of(
        [(-2, "base -3; digits -4 -2 1 2 3 5")], "base 3; digits -7 -1 0 1 8; bars -7 -7, -1 0, 0 -7, 0 0, 1 1",
    ),
    form_of([(2, "base -3; digits 0 1"), (-2, "base -3; digits -9 -8 -6 -4 2 4")],
        "base -3; digits -5 -3 3 5; bars -3 -3, 3 -3, 5 5"),
]


class FailingTest(Checks):
    def check_rows(self, form, rows):
        self.assertIs(rows.__class__, tuple)
        self.assertEqual(len(rows), len(form.terms))
        for (_, scheme), row in zip(form.terms, rows):
            self.check_row(row)
            self.assertTrue(is_row(scheme, row))
        self.assertFalse(is_open(form.target, (value_of(form, rows), None)), (told(form), rows))

    def test_rows_just_where_the_form_is_not_always_written(self):
        many = 0
        for form in edge_forms() + mixed_forms(200, 80, seed=7):
            rows = failing(form)
            self.assertIs(rows is None, always_written(form))
            depth = depth_for(form)
            shortest = first_lengths_not_written(form, depth)
            if rows is None:
                self.assertIsNone(shortest)
                continue
            self.check_rows(form, rows)
            longest = max(len(row) for row in rows)
            if shortest is None:
                self.assertGreater(longest, depth)
            else:
                self.assertEqual(longest, shortest, told(form))
                many += longest > 1
        self.assertGreater(many, 5)

    def test_some_rows(self):
        self.assertEqual(failing(Form([(1, signed())], TWO)), ((-1,),))
        self.assertEqual(failing(Form([(-1, TWO)], TWO)), ((1,),))
        self.assertEqual(failing(Form([(1, TWO)], Scheme(2, [0, 1], bars=[(1, 1)]))), ((1, 1),))
        self.assertEqual(failing(Form([(1, TWO)], Scheme(2, [1]))), ((1, 0),))
        self.assertEqual(failing(Form([(1, Scheme(2, [2, 0]))], Scheme(2, [0]))), ((2,),))
        rows = failing(Form([(1, TWO), (-1, TWO)], TWO))
        self.assertIn(rows, [((0,), (1,)), ((), (1,))])
        self.assertIsNone(failing(form=Form([(1, TWO), (1, TWO)], TWO)))

    def test_longer_rows(self):
        for terms, target, lengths in [
            ([(-1, "base -2; digits -5 8; bars 8 8")], "base 2; digits -2 0 1 2; bars 1 -2, 1 0, 2 2", [6]),
            ([(-1, "base -4; digits -1 0 1")],
                "base -4; digits -7 -2 -1 0 1 3; bars -7 -2, -7 0, -2 1, -2 3, 0 -7, 1 -7, 1 -2, 1 1, 3 -1, 3 1", [5]),
            ([(-2, "base 3; digits 0 1 2")], "base 3; digits -1 0 1 2 3; bars -1 0, 1 2, 2 -1, 2 2, 2 3, 3 -1", [4]),
            ([(-2, "base -2; digits -1"), (1, "base -2; digits -2")], "base 2; digits -2 -1 2; bars -2 -2, -2 2, 2 -1",
                [3, 7]),
            ([(-2, "base 5; digits -1"), (-2, "base -5; digits 0 1 2; bars 2 0, 2 2")],
                "base 5; digits -3 -2 -1 0 1; bars 0 1", [1, 4]),
            ([(2, "base -3; digits 9; bars 9 9"), (-1, "base -3; digits 3")], "base 3; digits -2 -1 0 2; bars 0 2",
                [0, 4]),
        ]:
            form = form_of(terms, target)
            rows = failing(form)
            self.check_rows(form, rows)
            self.assertEqual(max(len(row) for row in rows), max(lengths))
            self.assertEqual(first_lengths_not_written(form, max(lengths)), max(lengths))

    def test_equal_calls_return_equal_rows(self):
        form = Form([(1, TWO), (-1, TWO)], TWO)
        self.assertEqual(failing(form), failing(Form([(1, TWO), (-1, TWO)], TWO)))
        self.assertEqual(failing(form), failing(form))

    def test_no_form(self):
        self.check_no_form(failing)

    def test_interface(self):
        self.check_interface("oddfigures.forms", failing, "(form)")


class LimitsTest(Checks):
    def test_always_written(self):
        for form in WRITTEN:
            self.assertGreater(state_count(form), 1990)
            self.assertIs(always_written(form), True)
            self.assertIsNone(failing(form))
            given = paper(form)
            self.assertIs(is_paper(form, given), True)
            self.assertIs(is_paper(form, tuple(given[:1] + given[:0:-1])), True)
            last = given[-1][:2]
            self.assertIs(is_paper(form, [item for item in given if item[:2] != last]), False)
            self.assertIs(is_paper(form, given[1:]), False)
            for reading in form.readings(given[-1]):
                self.assertIn(form.after(given[-1], reading), given)

    def test_each_state_is_asked(self):
        form = WRITTEN[0]
        states = states_of(form)
        self.assertEqual(len(states), 2000)
        for state in states:
            self.assertIn(form.readings(state)[-1][0], (END, *form.terms[0][1].digits))

    def test_5000_items(self):
        form = WRITTEN[0]
        given = paper(form)
        many = (given * 3)[:5000]
        self.assertIs(is_paper(form, many), True)
        turned = [(lasts, signs, carries[::-1]) for lasts, signs, carries in given[1:]]
        self.assertIs(is_paper(form, given + turned + given[1:900]), True)
        # The pair more is open, but none of the pairs behind the items before it.
        wrong = [(lasts, signs, carries + ((1000, 0),)) for lasts, signs, carries in given[1:]]
        self.assertIs(is_paper(form, given[:1] + wrong), False)
        self.assertIs(is_paper(form, given[:1] + wrong + wrong), False)

    def test_5000_unlike_items(self):
        form = Form([(1, Scheme(2, [0]))], Scheme(2, [-1, 0, 1]))
        items = [((0,), (1,), ((0, 0), (1000 + number, 0))) for number in range(4998)]
        # Behind each of them only the last one stands.
        for last, expected in [((0, 0), True), ((1, 0), False)]:
            self.assertIs(is_paper(form, [form.start()] + items + [((0,), (1,), (last,))]), expected)

    def test_not_always_written(self):
        for form in NOT_WRITTEN:
            self.assertEqual(state_count(form), 2000)
            self.assertIs(always_written(form), False)
            self.assertIsNone(paper(form))
            rows = failing(form)
            self.assertIs(is_written(form.target, form.value_of(rows)), False)
            self.assertIs(is_paper(form, states_of(form)), False)
