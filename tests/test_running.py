"""Machines at work: what they are, what they write, and their track [101], [102]."""

import inspect
import random

from oddfigures.errors import InvalidLag, InvalidRows, InvalidTable, NotForm
from oddfigures.forms import Form
from oddfigures.machines import is_table, table
from oddfigures.running import Machine
from oddfigures.schemes import Scheme, plain_scheme
from tests.checks import Checks, no_forms
from tests.form_reference import (
    END, LAG_FORMS, chosen_table, edge_forms, every_rows, mixed_forms, readings_behind, readings_of, run, shows_table,
    table_positions, told, value_of,
)
from tests.reference import is_row
from tests.test_tables import GREAT_FORMS, lags_of, no_lags
from tests.values import any_values, made, signed

TWO = plain_scheme(2)
RECODED = Form([(1, TWO)], signed())
SUM = Form([(1, TWO), (1, plain_scheme(-2))], Scheme(2, [-1, 0, 1]))


def some_machines(many=40, seed=14):
    """Forms and lags with tables, those that `table` gives and others."""
    chance = random.Random(seed)
    found = []
    for form in edge_forms() + mixed_forms(many, 15, seed=seed):
        for lag in lags_of(form):
            given = table(form, lag)
            if given is None or len(given) > 400:
                continue
            found.append((form, lag, given))
            other = chosen_table(chance, form, lag)
            if other is not None and other != given and shows_table(form, lag, other):
                found.append((form, lag, other))
    return found


class MachineTest(Checks):
    def test_what_it_is_made_of(self):
        for form, lag, given in some_machines():
            machine = Machine(form, lag, given)
            self.assertEqual(machine.form, form)
            self.assertEqual(machine.lag, lag)
            self.check_integers(machine.lag)
            self.assertIs(machine.table().__class__, dict)
            self.assertEqual(machine.table(), given)
            self.assertEqual(machine.positions(), table_positions(form, lag, given), told(form))
            self.assertIs(machine.positions().__class__, list)
            self.assertEqual(len(machine), len(machine.positions()))

    def test_the_order_of_keys_does_not_matter(self):
        given = table(RECODED, 1)
        turned = dict(list(given.items())[::-1])
        self.assertEqual(Machine(RECODED, 1, turned).positions(), Machine(RECODED, 1, given).positions())
        self.assertIs(Machine(RECODED, 1, turned) == Machine(RECODED, 1, given), True)
        self.assertEqual(Machine(table=given, lag=1, form=RECODED), made(RECODED, 1))

    def test_the_table_is_copied(self):
        given = table(RECODED, 1)
        again = dict(given)
        machine = Machine(RECODED, 1, given)
        given.clear()
        self.assertEqual(machine.table(), again)
        machine.table().clear()
        machine.positions().clear()
        self.assertEqual(machine.table(), again)
        self.assertEqual(len(machine.positions()), len(machine))
        self.assertEqual(machine([(1, 1)]), (1, 0, -1))

    def test_equal_machines(self):
        same = Form([(1, TWO)], TWO)
        machines = [
            made(RECODED, 1), made(RECODED, 2), made(same, 0), made(same, 1), made(Form([(2, TWO)], TWO), 0),
            made(Form([(1, TWO)], Scheme(2, [-1, 0, 1])), 0), made(SUM, 0), made(SUM, 1),
        ]
        for at, one in enumerate(machines):
            for other_at, other in enumerate(machines):
                self.assertIs(one == other, at == other_at)
            self.assertIs(one == Machine(one.form, one.lag, one.table()), True)
            self.assertIs(one != Machine(one.form, one.lag, one.table()), False)

    def test_unlike_machines_with_equal_tables(self):
        given = table(Form([(1, TWO)], TWO), 0)
        one = Machine(Form([(1, TWO)], TWO), 0, given)
        other = Machine(Form([(1, TWO)], Scheme(2, [0, 1, 3])), 0, given)
        self.assertEqual(one.table(), other.table())
        self.assertIs(one == other, False)
        once = Form([(1, Scheme(2, [1], bars=[(1, 1)]))], TWO)
        self.assertIs(Machine(once, 1, {}) == Machine(once, 2, {}), False)
        self.assertIs(Machine(once, 1, {}) == Machine(once, 1, {}), True)

    def test_machines_with_unlike_tables(self):
        found = 0
        machines = some_machines()
        for (form, lag, given), (other_form, other_lag, other) in zip(machines, machines[1:]):
            if (form, lag) == (other_form, other_lag):
                found += 1
                self.assertIs(Machine(form, lag, given) == Machine(form, lag, other), False)
        self.assertGreater(found, 10)

    def test_equal_to_no_value_of_another_class(self):
        machine = made(RECODED, 2)
        for value in any_values() + [machine.table(), machine.form, machine.positions(), [machine]]:
            self.assertIs(machine == value, False)
            self.assertIs(value == machine, False)

    def test_no_form(self):
        for wrong in no_forms():
            for others in ((1, table(RECODED, 1)), (7, None)):
                self.check_error(NotForm, "value", wrong, Machine, wrong, *others)

    def test_no_lag(self):
        for form in (RECODED, SUM):
            for wrong in no_lags(form):
                for given in (table(form, 1), {}, None):
                    self.check_error(InvalidLag, "value", wrong, Machine, form, wrong, given)

    def test_no_table(self):
        for form, lag in [(RECODED, 0), (RECODED, 1), (RECODED, 2), (SUM, 0), (SUM, 1)]:
            for wrong in any_values() + [table(RECODED, 2), {**table(SUM, 1), 0: 0}]:
                if not is_table(form, lag, wrong):
                    self.check_error(InvalidTable, "value", wrong, Machine, form, lag, wrong)
            given = table(form, lag) or table(form, 1)
            fewer = {key: given[key] for key in list(given)[1:]}
            more = {**given, None: END}
            for wrong in (fewer, more, list(given), list(given.items())):
                self.check_error(InvalidTable, "value", wrong, Machine, form, lag, wrong)
        empty = Form([(1, Scheme(2, [1], bars=[(1, 1)]))], TWO)
        self.assertEqual(Machine(empty, 1, {}).positions(), [((None,), (), (1,), 0, None),
            ((1,), ((1,),), (1,), 0, None)])

    def test_interface(self):
        self.check_interface("oddfigures.running", Machine, "(form, lag, table)")
        for name in ("table", "positions", "track", "__call__", "__len__", "__eq__", "__rshift__"):
            self.assertIn(name, vars(Machine))
        self.assertIsInstance(vars(Machine)["form"], property)
        self.assertIsInstance(vars(Machine)["lag"], property)


class CallTest(Checks):
    def test_each_row(self):
        for form, lag, given in some_machines():
            machine = Machine(form, lag, given)
            depth = 4 if len(form.terms) == 1 else 2
            for rows in every_rows(form, depth)[-150:]:
                track, row = run(form, lag, given, rows)
                written = machine(list(rows))
                self.check_row(written)
                self.assertEqual(written, row, (told(form), lag, rows))
                self.assertEqual(list(machine.track(list(rows))), track)
                # The value of the row is that of the form.
                self.assertTrue(is_row(form.target, written))
                self.assertEqual(form.target.value_of(written), value_of(form, rows))

    def test_longer_rows(self):
        chance = random.Random(15)
        for form, lag, given in some_machines()[::3]:
            machine = Machine(form, lag, given)
            for _ in range(6):
                rows = tuple(self.some_row(chance, scheme, chance.randint(0, 30)) for _, scheme in form.terms)
                track, row = run(form, lag, given, rows)
                self.assertEqual(machine(rows), row)
                self.assertEqual(machine(rows=rows), row)
                self.assertEqual(list(machine.track(rows=rows)), track)
                self.assertEqual(form.target.value_of(row), value_of(form, rows))

    def some_row(self, chance, scheme, length):
        row = ()
        for _ in range(length):
            digits = [digit for digit in scheme.digits if row == () or (digit, row[0]) not in scheme.bars]
            if digits == []:
                break
            row = (chance.choice(digits),) + row
        return row

    def test_some_rows(self):
        machine = made(RECODED, 1)
        for row, written in [
            ((), ()), ((0,), ()), ((1,), (1,)), ((1, 1), (1, 0, -1)), ((1, 1, 1), (1, 0, 0, -1)),
            ((0, 0, 0, 1), (0, 0, 1)),
            ((1, 0, 1), (1, 0, 1)),
        ]:
            self.assertEqual(machine([row]), written, row)
            self.assertEqual(machine((row,)), written)
        self.assertEqual(machine([(1,) * 400]), (1,) + (0,) * 399 + (-1,))
        self.assertEqual(len(list(machine.track([(1,) * 400]))), 400)

    def test_empty_rows_and_rows_of_unlike_lengths(self):
        for lag in (0, 1):
            machine = made(SUM, lag)
            self.assertEqual(machine([(), ()]), ())
            self.assertEqual(list(machine.track([(), ()])), [])
            for rows in [((1, 1, 0), ()), ((), (1, 1, 0)), ((1,), (1, 1, 0, 1)), ((1, 0, 1, 1), (0,))]:
                self.assertEqual(SUM.target.value_of(machine(rows)), value_of(SUM, rows))
                self.assertEqual([reading for reading, _ in machine.track(rows)], readings_of(rows))
        self.assertEqual([reading for reading, _ in made(SUM, 1).track([(1, 0, 1), (1,)])],
            [(1, 1), (0, END), (1, END)])

    def test_a_target_that_ends(self):
        # END stands in the track, and nothing is put in front.
        zeros = Form([(1, Scheme(2, [0]))], Scheme(2, [1]))
        machine = made(zeros, 0)
        self.assertEqual(machine([(0, 0, 0)]), ())
        self.assertEqual(list(machine.track([(0, 0)])), [((0,), END), ((0,), END)])
        later = made(zeros, 2)
        self.assertEqual(list(later.track([(0, 0, 0)])), [((0,), None), ((0,), None), ((0,), END)])
        self.assertEqual(later([(0, 0, 0)]), ())

    def test_what_is_written_before_the_lag(self):
        for lag in (1, 2):
            track = list(made(RECODED, lag).track([(1, 0, 1, 1)]))
            self.assertEqual([digit for _, digit in track[:lag]], [None] * lag)
            self.assertNotIn(None, [digit for _, digit in track[lag:]])
        self.assertEqual(list(made(Form([(1, TWO)], TWO), 0).track([(1, 0)])), [((0,), 0), ((1,), 1)])

    def test_the_track_is_a_generator(self):
        machine = made(RECODED, 1)
        track = machine.track([(1, 1)])
        self.assertTrue(inspect.isgenerator(track))
        self.assertEqual(next(track), ((1,), None))
        self.assertEqual(next(track), ((1,), -1))
        with self.assertRaises(StopIteration):
            next(track)
        for item in machine.track([(1, 1, 0)]):
            self.assertIs(item.__class__, tuple)
            self.assertEqual(len(item), 2)

    def test_wrong_rows(self):
        machine = made(RECODED, 1)
        sums = made(SUM, 0)
        for wrong in any_values() + [
            [], [()] * 3, [(2,)], [[1]], [(True,)], (1, 0), [1], [None], [(1, None)], {0: (1,)}, [(1,), None],
            [(1,), (-1,)],
            [(1,), [1]], ((1,), (1, False)),
        ]:
            for each in (machine, sums):
                schemes = [scheme for _, scheme in each.form.terms]
                if isinstance(wrong, (list, tuple)) and len(wrong) == len(schemes):
                    if all(row in scheme for row, scheme in zip(wrong, schemes)):
                        self.assertEqual(each.form.target.value_of(each(wrong)), each.form.value_of(wrong))
                        continue
                self.check_error(InvalidRows, "rows", wrong, each, wrong)
                # The generator raises it when it is iterated.
                track = each.track(wrong)
                self.check_error(InvalidRows, "rows", wrong, next, track)

    def test_what_is_handed_in_is_not_changed(self):
        given = [(1, 1, 1)]
        machine = made(RECODED, 1)
        machine(given)
        list(machine.track(given))
        self.assertEqual(given, [(1, 1, 1)])

    def test_equal_calls(self):
        machine = made(RECODED, 1)
        before = machine([(1, 1, 0, 1)])
        list(machine.track([(1, 1)]))
        for _ in range(3):
            self.assertEqual(machine([(1, 1, 0, 1)]), before)


class LimitsTest(Checks):
    def test_machines_of_300_states(self):
        chance = random.Random(16)
        for form, greatest in GREAT_FORMS:
            for lag in range(greatest + 1):
                given = table(form, lag)
                if given is None:
                    continue
                machine = Machine(form, lag, given)
                self.assertEqual(machine.table(), given)
                rows = [CallTest.some_row(self, chance, scheme, 400) for _, scheme in form.terms]
                self.assertEqual(form.target.value_of(machine(rows)), form.value_of(rows))
                for position in machine.positions()[::200]:
                    for reading in readings_behind(form.terms, position[0]):
                        self.assertEqual((position, reading) in given, len(position[1]) == lag)
