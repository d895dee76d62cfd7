"""Rows for which machines write unlike rows, and classes of positions [104]."""

import itertools

from oddfigures.errors import NotMachine, UnlikeForms
from oddfigures.forms import Form, state_count
from oddfigures.machines import least_lag, table
from oddfigures.running import Machine, classes, parting_rows
from oddfigures.schemes import Scheme, plain_scheme
from tests.checks import Checks
from tests.form_reference import END, LAG_FORMS, every_rows, first_position, front_of, led_to, readings_behind, told
from tests.reference import every_pair, is_row
from tests.test_running import some_machines
from tests.test_tables import GREAT_FORMS
from tests.values import any_values, made, signed

TWO = plain_scheme(2)
FULL = Scheme(2, [-1, 0, 1])
RECODED = Form([(1, TWO)], signed())


def first_length(one, other, depth):
    """How long the longest row is in a shortest example of rows that part two machines, or None up to this depth."""
    shortest = None
    for rows in every_rows(one.form, depth):
        longest = max(len(row) for row in rows)
        if (shortest is None or longest < shortest) and one(rows) != other(rows):
            shortest = longest
    return shortest


class PartingTest(Checks):
    def check_parting(self, one, other, depth):
        rows = parting_rows(one, other)
        shortest = first_length(one, other, depth)
        if rows is None:
            self.assertIsNone(shortest, (told(one.form), told(other.form)))
            return False
        self.assertIs(rows.__class__, tuple)
        self.assertEqual(len(rows), len(one.form.terms))
        for (_, scheme), row in zip(one.form.terms, rows):
            self.check_row(row)
            self.assertTrue(is_row(scheme, row))
        self.assertNotEqual(one(rows), other(rows))
        longest = max(len(row) for row in rows)
        if shortest is None:
            self.assertGreater(longest, depth)
        else:
            self.assertEqual(longest, shortest, (told(one.form), told(other.form)))
        return True

    def test_machines_of_all_kinds(self):
        machines = [Machine(*made_of) for made_of in some_machines(60, 17)]
        found = {True: 0, False: 0}
        for at, one in enumerate(machines):
            for other in machines[at:at + 5]:
                if [scheme for _, scheme in one.form.terms] == [scheme for _, scheme in other.form.terms]:
                    depth = 4 if len(one.form.terms) == 1 else 2
                    found[self.check_parting(one, other, depth)] += 1
                    self.check_parting(other, one, depth)
        self.assertGreater(min(found.values()), 50)

    def test_lags_targets_and_factors(self):
        machines = [
            made(Form([(factor, TWO)], target), lag)
            for factor in (1, -1, 2) for target in (TWO, signed(), FULL, Scheme(2, [0, 1, 3]), plain_scheme(-2))
            for lag in (0, 1, 2) if table(Form([(factor, TWO)], target), lag) is not None
        ]
        found = {True: 0, False: 0}
        for one, other in itertools.product(machines, repeat=2):
            found[self.check_parting(one, other, 4)] += 1
        self.assertGreater(min(found.values()), 30)

    def test_one_machine_with_itself(self):
        for made_of in some_machines(20, 18):
            self.assertIsNone(parting_rows(Machine(*made_of), Machine(*made_of)))

    def test_equal_rows_from_unlike_machines(self):
        # Each number has one row, also one that is put in front.
        for base, digits in [(2, [1, 2]), (3, [1, 2, 3]), (2, [1]), (6, [1, 2, 3, 4, 5, 6]), (-2, [1])]:
            scheme = Scheme(base, digits)
            same = Form([(1, scheme)], scheme)
            for lag, other_lag in itertools.product((0, 1, 2), repeat=2):
                self.assertIsNone(parting_rows(one=made(same, lag), other=made(same, other_lag)))

    def test_rows_that_are_longer_by_zeros(self):
        # The value is the same, but the rows are not.
        zeros = Form([(1, Scheme(2, [0]))], TWO)
        kept = made(zeros, 0)
        start, ended = first_position(zeros), ((0,), (), (1,), 0, END)
        dropped = Machine(zeros, 0, {(start, (0,)): END, (ended, (0,)): END})
        self.assertEqual([kept([(0, 0)]), dropped([(0, 0)])], [(0, 0), ()])
        self.assertEqual(parting_rows(kept, dropped), ((0,),))
        self.assertEqual(parting_rows(dropped, kept), ((0,),))
        self.assertEqual(parting_rows(kept, made(zeros, 2)), ((0,),))

    def test_no_machine(self):
        machine = made(RECODED, 1)
        for wrong in any_values():
            if wrong.__class__ is not Machine:
                self.check_error(NotMachine, "value", wrong, parting_rows, wrong, machine)
                self.check_error(NotMachine, "value", wrong, parting_rows, wrong, None)
                self.check_error(NotMachine, "value", wrong, parting_rows, machine, wrong)
                self.check_error(NotMachine, "value", wrong, classes, wrong)

    def test_unlike_forms(self):
        forms = [
            Form([(1, TWO)], FULL), Form([(1, FULL)], FULL), Form([(1, plain_scheme(-2))], FULL),
            Form([(1, TWO), (1, TWO)], FULL), Form([(1, TWO), (1, FULL)], FULL), Form([(1, FULL), (1, TWO)], FULL),
            Form([(1, plain_scheme(3))], Scheme(3, [-1, 0, 1])), Form([(1, Scheme(2, [0, 1], bars=[(1, 1)]))], FULL),
        ]
        machines = [made(form, least_lag(form)) for form in forms if least_lag(form) is not None]
        self.assertGreater(len(machines), 5)
        for (at, one), (other_at, other) in itertools.product(enumerate(machines), repeat=2):
            if at == other_at:
                self.assertIsNone(parting_rows(one, other))
                continue
            with self.assertRaises(UnlikeForms) as caught:
                parting_rows(one, other)
            self.assertIs(caught.exception.one, one)
            self.assertIs(caught.exception.other, other)

    def test_interface(self):
        self.check_interface("oddfigures.running", parting_rows, "(one, other)")
        self.check_interface("oddfigures.running", classes, "(machine)")


def unlike_pairs(form, lag, given, positions):
    """The pairs of positions from which a machine goes on in unlike ways: those that differ at once, and so on."""
    moves = []
    for position in positions:
        here = {}
        for reading in readings_behind(form.terms, position[0]):
            leads = led_to(form, lag, position, reading)
            written = None if None in leads else given[position, reading]
            here[reading] = (written, positions.index(leads[written]))
        moves.append(here)
    fronts = [front_of(form, position) for position in positions]
    unlike = set()
    every = list(itertools.combinations(range(len(positions)), 2))
    for i, j in every:
        if fronts[i] != fronts[j] or moves[i].keys() != moves[j].keys():
            unlike.add((i, j))
        elif any(moves[i][reading][0] != moves[j][reading][0] for reading in moves[i]):
            unlike.add((i, j))
    changed = True
    while changed:
        changed = False
        for i, j in every:
            if (i, j) in unlike:
                continue
            for reading in moves[i]:
                ends = sorted((moves[i][reading][1], moves[j][reading][1]))
                if tuple(ends) in unlike:
                    unlike.add((i, j))
                    changed = True
                    break
    return unlike


class ClassesTest(Checks):
    def test_classes(self):
        many = 0
        for form, lag, given in some_machines(60, 19):
            machine = Machine(form, lag, given)
            positions = machine.positions()
            if len(positions) > 45:
                continue
            many += 1
            found = classes(machine)
            self.assertIs(found.__class__, list)
            for each in found:
                self.assertIs(each.__class__, list)
                self.check_integers(*each)
                self.assertEqual(each, sorted(each))
            self.assertEqual(sorted(each[0] for each in found), [each[0] for each in found])
            self.assertEqual(sorted(at for each in found for at in each), list(range(len(machine))))
            home = {at: number for number, each in enumerate(found) for at in each}
            unlike = unlike_pairs(form, lag, given, positions)
            for pair in itertools.combinations(range(len(machine)), 2):
                self.assertIs(home[pair[0]] != home[pair[1]], pair in unlike, (told(form), lag, pair))
        self.assertGreater(many, 50)

    def test_some_classes(self):
        self.assertEqual(classes(made(Form([(1, TWO)], TWO), 0)), [[0, 1, 2]])
        self.assertEqual(classes(machine=made(RECODED, 1)), classes(made(RECODED, 1)))
        # What is put in front parts them: a 1 that was read, or none.
        doubled = made(Form([(2, TWO)], TWO), 0)
        self.assertEqual([position[3] for position in doubled.positions()], [0, 0, 1, 0, 1])
        self.assertEqual(classes(doubled), [[0, 1, 3], [2, 4]])

    def test_classes_of_one_position(self):
        # The only digit may stand once.
        once = Form([(1, Scheme(2, [1], bars=[(1, 1)]))], TWO)
        self.assertEqual(classes(made(once, 0)), [[0], [1]])
        self.assertEqual(classes(made(once, 1)), [[0], [1]])
        never = Form([(1, Scheme(2, [0]))], Scheme(2, [1]))
        # END is written behind both, and nothing is put in front.
        self.assertEqual(classes(made(never, 0)), [[0, 1]])
        self.assertEqual(classes(made(Form([(1, Scheme(2, [0], bars=[(0, 0)]))], TWO), 0)), [[0], [1]])

    def test_what_may_be_read_parts_positions(self):
        form = Form([(1, Scheme(2, [0, 1], bars=[(1, 1)]))], Scheme(2, [0, 1]))
        self.assertEqual(classes(made(form, 0)), [[0, 1], [2]])

    def test_what_is_returned_may_be_changed(self):
        machine = made(RECODED, 1)
        found = classes(machine)
        again = [list(each) for each in found]
        found[0].append(7)
        found.clear()
        self.assertEqual(classes(machine), again)


class LimitsTest(Checks):
    def test_machines_of_300_states(self):
        for form, greatest in GREAT_FORMS:
            self.assertLessEqual(state_count(form), 300)
            machines = [made(form, lag) for lag in range(greatest + 1) if table(form, lag) is not None]
            for one, other in itertools.product(machines, repeat=2):
                rows = parting_rows(one, other)
                if one.lag == other.lag:
                    self.assertIsNone(rows)
                if rows is not None:
                    self.assertNotEqual(one(rows), other(rows))
            for machine in machines:
                found = classes(machine)
                self.assertEqual(sorted(at for each in found for at in each), list(range(len(machine))))

    def test_equal_rows_at_the_limit(self):
        for lag, form in LAG_FORMS.items():
            if lag is not None:
                self.assertIsNone(parting_rows(made(form, lag), made(form, lag)))
        every = Form([(1, Scheme(6, [1, 2, 3, 4, 5, 6], bars=every_pair((1, 5))))], Scheme(6, [1, 2, 3, 4, 5, 6]))
        for lag, other_lag in itertools.product((0, 1, 2), repeat=2):
            self.assertIsNone(parting_rows(made(every, lag), made(every, other_lag)))
