"""Chains of machines [103]."""

import itertools

from oddfigures.errors import InvalidRows, NotMachine, UnlikeForms
from oddfigures.forms import Form
from oddfigures.running import Chain, Machine
from oddfigures.schemes import Scheme, plain_scheme
from tests.checks import Checks
from tests.form_reference import every_rows, value_of
from tests.values import any_values, made, signed

TWO = plain_scheme(2)
FULL = Scheme(2, [-1, 0, 1])
RECODE = made(Form([(1, TWO)], signed()), 1)
DOUBLE = made(Form([(2, signed())], signed()), 0)
OPPOSITE = made(Form([(-1, signed())], signed()), 0)
LOOSEN = made(Form([(1, signed())], FULL), 0)
SUM = made(Form([(1, TWO), (1, plain_scheme(-2))], FULL), 1)
PLAIN = made(Form([(1, TWO)], TWO), 2)


class ChainTest(Checks):
    def test_rows_go_from_one_machine_to_the_next(self):
        # The factor of all machines but the first one, whose form tells its own value.
        for machines, factor in [
            ([RECODE, DOUBLE], 2), ([RECODE, OPPOSITE], -1), ([RECODE, LOOSEN], 1),
            ([PLAIN, RECODE, DOUBLE, OPPOSITE], -2),
            ([RECODE, DOUBLE, DOUBLE, DOUBLE, OPPOSITE, LOOSEN], -8), ([PLAIN, PLAIN], 1), ([DOUBLE, LOOSEN], 1),
        ]:
            chain = machines[0] >> machines[1]
            for machine in machines[2:]:
                chain = chain >> machine
            self.assertIs(chain.__class__, Chain)
            self.assertEqual(chain.machines(), machines)
            self.assertEqual(len(chain), len(machines))
            self.assertEqual(chain.writes(), machines[-1].form.target)
            first = machines[0].form
            for rows in every_rows(first, 4):
                expected = machines[0](rows)
                for machine in machines[1:]:
                    expected = machine([expected])
                row = chain(list(rows))
                self.check_row(row)
                self.assertEqual(row, expected)
                self.assertEqual(chain.writes().value_of(row), factor * value_of(first, rows))
                self.assertEqual(chain(rows=rows), row)

    def test_a_first_machine_with_two_terms(self):
        again = made(Form([(2, FULL)], FULL), 0)
        chain = SUM >> again
        for rows in every_rows(SUM.form, 3):
            self.assertEqual(chain(rows), again([SUM(rows)]))
            self.assertEqual(FULL.value_of(chain(rows)), 2 * value_of(SUM.form, rows))

    def test_chains_of_chains(self):
        chain = RECODE >> DOUBLE
        longer = chain >> OPPOSITE
        self.assertEqual(chain.machines(), [RECODE, DOUBLE])
        self.assertEqual(longer.machines(), [RECODE, DOUBLE, OPPOSITE])
        self.assertEqual((chain >> LOOSEN).machines(), [RECODE, DOUBLE, LOOSEN])
        self.assertEqual([len(chain), len(longer)], [2, 3])

    def test_the_scheme_need_only_be_equal(self):
        other = made(Form([(1, signed())], signed()), 1)
        self.assertEqual((RECODE >> other).machines(), [RECODE, other])

    def test_what_is_returned_may_be_changed(self):
        chain = RECODE >> DOUBLE
        chain.machines().append(None)
        chain.machines()[0] = None
        self.assertEqual(chain.machines(), [RECODE, DOUBLE])
        self.assertIs(chain.machines().__class__, list)

    def test_equal_chains(self):
        chains = [
            RECODE >> DOUBLE, RECODE >> OPPOSITE, RECODE >> LOOSEN, RECODE >> DOUBLE >> DOUBLE,
            RECODE >> DOUBLE >> OPPOSITE,
            RECODE >> OPPOSITE >> DOUBLE, DOUBLE >> OPPOSITE, PLAIN >> RECODE, PLAIN >> RECODE >> DOUBLE,
            PLAIN >> PLAIN,
        ]
        for (at, one), (other_at, other) in itertools.product(enumerate(chains), repeat=2):
            self.assertIs(one == other, at == other_at)
            self.assertIs(one != other, at != other_at)
        self.assertIs(RECODE >> DOUBLE == made(RECODE.form, 1) >> made(DOUBLE.form, 0), True)

    def test_equal_to_no_value_of_another_class(self):
        chain = RECODE >> DOUBLE
        for value in any_values() + [chain.machines(), RECODE, DOUBLE, tuple(chain.machines())]:
            if value.__class__ is not Chain:
                self.assertIs(chain == value, False)
                self.assertIs(value == chain, False)

    def test_no_machine(self):
        for one in (RECODE, RECODE >> DOUBLE, SUM):
            for wrong in any_values():
                if wrong.__class__ is not Machine:
                    self.check_error(NotMachine, "value", wrong, lambda value: one >> value, wrong)
            chain = RECODE >> DOUBLE
            self.check_error(NotMachine, "value", chain, lambda value: one >> value, chain)

    def test_forms_that_do_not_fit(self):
        for one in (RECODE, RECODE >> DOUBLE, PLAIN, SUM, DOUBLE >> LOOSEN):
            target = one.writes() if one.__class__ is Chain else one.form.target
            for other in (RECODE, DOUBLE, OPPOSITE, LOOSEN, PLAIN, SUM,
                made(Form([(1, -signed())], TWO.other_base()), 0)):
                terms = other.form.terms
                if len(terms) == 1 and terms[0][1] == target:
                    self.assertEqual((one >> other).writes(), other.form.target)
                    continue
                with self.assertRaises(UnlikeForms) as caught:
                    one >> other
                self.assertIs(caught.exception.one, one)
                self.assertIs(caught.exception.other, other)

    def test_wrong_rows(self):
        for chain, right in [(RECODE >> DOUBLE, [(1, 1)]), (SUM >> made(Form([(1, FULL)], FULL), 0), [(1,), (1, 1)])]:
            self.assertEqual(chain(right), chain(tuple(right)))
            for wrong in [None, True, 0, "", "1", [], (), {}, [None], [()] * 3, [[1]], [(2,), ()], [(True,)], (1,),
                chain, [(1,), [1]]]:
                self.check_error(InvalidRows, "rows", wrong, chain, wrong)

    def test_interface(self):
        for name in ("machines", "writes", "__call__", "__len__", "__eq__", "__rshift__"):
            self.assertIn(name, vars(Chain))
        self.assertEqual(Chain.__module__, "oddfigures.running")
