"""Loops: plain rows without an end of a number [43]."""

from oddfigures.counts import is_loop, loop, plain_count
from oddfigures.schemes import Scheme, plain_scheme
from tests.checks import Checks
from tests.reference import HUNDRED, SURPLUS, count_of_plain_rows, edge_schemes, is_loop_of, mixed_schemes
from tests.values import any_values, signed

FREE = Scheme(2, [-1, 0, 1])
ZERO_ROW = (-6, 7, 7, 7, -6, 7, 7, -6, -6, -6, 7, -6)


class LoopTest(Checks):
    def check_loop(self, scheme, number, found):
        self.assertIs(found.__class__, tuple)
        self.assertEqual(len(found), 3)
        for row in found:
            self.check_row(row)
        self.assertTrue(is_loop_of(scheme, number, *found), (str(scheme), number, found))
        self.assertIs(is_loop(scheme, number, found), True)

    def test_a_loop_just_where_there_is_no_end_of_rows(self):
        for scheme in edge_schemes() + mixed_schemes(120, 6):
            for number in range(-8, 9):
                found = loop(scheme, number)
                self.assertIs(found is None, count_of_plain_rows(scheme, number) is not None, (str(scheme), number))
                if found is not None:
                    self.check_loop(scheme, number, found)

    def test_numbers_of_a_hundred_figures(self):
        for scheme in edge_schemes() + mixed_schemes(10, 6, seed=3):
            for number in (HUNDRED, -HUNDRED):
                found = loop(scheme, number)
                self.assertIs(found is None, plain_count(scheme, number) is not None)
                if found is not None:
                    self.check_loop(scheme, number, found)

    def test_some_loops(self):
        self.check_loop(FREE, 1, loop(FREE, 1))
        self.check_loop(SURPLUS, 0, loop(SURPLUS, 0))
        self.check_loop(SURPLUS, 0, loop(number=0, scheme=SURPLUS))
        for scheme, number in [
            (FREE, 0), (signed(), 7), (plain_scheme(2), 5), (plain_scheme(2), -5), (Scheme(2, [0]), 0),
        ]:
            self.assertIsNone(loop(scheme, number))

    def test_equal_calls_give_equal_results(self):
        self.assertEqual(loop(FREE, 5), loop(FREE, 5))


class IsLoopTest(Checks):
    def test_the_documents_loops(self):
        self.assertIs(is_loop(FREE, 1, ((1,), (-1,), (-1,))), True)
        self.assertIs(is_loop(FREE, 1, ((1,), (0,), ())), False)

    def test_right_ones(self):
        for scheme, number, given in [
            (FREE, 1, ((1,), (-1,), ())), (FREE, 1, ((1,), (-1, -1), ())), (FREE, 1, ((1, -1), (-1,) * 7, (-1, -1))),
            (FREE, 3, ((1,), (-1,), (1,))), (FREE, -1, ((-1,), (1,), (1,))), (FREE, 2, ((1,), (-1,), (0,))),
            (SURPLUS, 0, ((), ZERO_ROW, ())), (SURPLUS, 0, (ZERO_ROW, ZERO_ROW, ZERO_ROW)),
            (SURPLUS, 0, (ZERO_ROW[:3], ZERO_ROW[3:] + ZERO_ROW[:3], ZERO_ROW[3:])), (SURPLUS, 7, ((), ZERO_ROW, (7,))),
        ]:
            self.assertTrue(is_loop_of(scheme, number, *given))
            self.assertIs(is_loop(scheme, number, given), True, given)
            self.assertIs(is_loop(value=given, number=number, scheme=scheme), True)

    def check_wrong(self, scheme, number, given):
        self.assertFalse(is_loop_of(scheme, number, *given))
        self.assertIs(is_loop(scheme, number, given), False, (str(scheme), number, given))

    def test_another_number(self):
        for number in (0, 2, -1, 3, HUNDRED):
            self.check_wrong(FREE, number, ((1,), (-1,), (-1,)))

    def test_an_empty_middle(self):
        self.check_wrong(FREE, 1, ((1,), (), ()))
        self.check_wrong(FREE, 0, ((), (), ()))
        self.check_wrong(SURPLUS, 0, (ZERO_ROW, (), ()))

    def test_no_middle_must_give_the_number_too(self):
        # With one middle each of these has the number as its value.
        self.check_wrong(FREE, 1, ((1,), (-1, -1, 0), ()))
        self.check_wrong(FREE, 3, ((1,), (1,), ()))
        self.check_wrong(FREE, 1, ((), (1,), ()))
        self.check_wrong(Scheme(2, [-3, 0, 3]), 3, ((3,), (-3,), (0,)))

    def test_no_middle_alone_is_not_enough(self):
        self.check_wrong(FREE, 1, ((1,), (1,), ()))
        self.check_wrong(FREE, 1, ((1,), (0,), ()))
        self.check_wrong(FREE, 1, ((1, -1), (1,), ()))

    def test_plain_rows_alone(self):
        with_zero = Scheme(2, [-6, 0, 7])
        self.check_wrong(FREE, 1, ((0, 1), (-1,), ()))
        self.check_wrong(FREE, 1, ((), (0,), (1,)))
        self.check_wrong(FREE, 0, ((), (0,), ()))
        self.check_wrong(with_zero, 0, ((), ZERO_ROW, (0,)))
        self.assertIs(is_loop(with_zero, 0, ((), ZERO_ROW, ())), True)
        self.assertIs(is_loop(with_zero, 7, ((), ZERO_ROW, (7,))), True)
        self.assertIs(is_loop(with_zero, 14, ((), ZERO_ROW, (7, 0))), True)

    def test_bars_at_each_joint(self):
        scheme = Scheme(2, [-1, 0, 1], bars=[(-1, -1)])
        self.check_wrong(scheme, 1, ((1,), (-1,), ()))
        self.check_wrong(scheme, 1, ((1,), (-1,), (-1,)))
        scheme = Scheme(2, [-1, 0, 1], bars=[(1, -1)])
        self.check_wrong(scheme, 1, ((1,), (-1,), ()))
        given = (ZERO_ROW[:6], ZERO_ROW[6:] + ZERO_ROW[:6], ZERO_ROW[6:])
        self.assertIs(is_loop(SURPLUS, 0, given), True)
        for pair in ((-6, -6), (-6, 7), (7, -6), (7, 7)):
            self.check_wrong(SURPLUS.barred([pair]), 0, given)
        # The barred digits stand side by side only where a middle meets the back, or the front meets it.
        for scheme, number, right in [
            (Scheme(2, [-1, 0, 1], bars=[(-1, 1)]), 3, ((1,), (-1,), (1,))),
            (Scheme(2, [-1, 0, 1], bars=[(-1, 0)]), 2, ((1,), (-1,), (0,))),
            (Scheme(2, [-1, 0, 1], bars=[(1, 0)]), 2, ((1,), (-1,), (0,))),
            (Scheme(2, [-1, 0, 1], bars=[(1, 1)]), 3, ((1,), (-1,), (1,))),
        ]:
            self.assertIs(is_loop(scheme.free(), number, right), True)
            self.check_wrong(scheme, number, right)

    def test_two_middles_side_by_side(self):
        # With no middle and with one the rows are plain rows with this value; with two they are no rows.
        scheme = Scheme(2, [-1, 0, 1], bars=[(-1, -1)])
        for times in (0, 1):
            self.assertEqual(scheme.value_of((1,) + (-1,) * times), 1)
        self.assertIs(is_loop(scheme, 1, ((1,), (-1,), ())), False)

    def test_digits_of_the_scheme_alone(self):
        for wrong in (2, -2, 10, True, False, None, "1", (), (1,), [1], FREE, HUNDRED):
            for given in (
                ((1, wrong), (-1,), ()), ((1,), (-1, wrong), ()), ((1,), (-1,), (wrong,)), ((wrong,), (-1,), ()),
            ):
                self.assertIs(is_loop(FREE, 1, given), False, repr(given))
        self.assertIs(is_loop(FREE, 1, ((True,), (-1,), ())), False)

    def test_tuples_alone(self):
        front, middle, back = (1,), (-1,), (-1,)
        for given in [
            [front, middle, back], ([1], middle, back), (front, [-1], back), (front, middle, [-1]), (front, middle),
            (front, middle, back, ()), (front, middle, None), (front, -1, back), (1, middle, back), (front, middle, -1),
            (front, "-1", back), front + middle + back, (None, middle, back), ((front, middle, back),),
            (front, middle, "1"), ("", middle, back), (front, {}, back), (FREE, middle, back), (front, FREE, back),
        ]:
            self.assertIs(is_loop(FREE, 1, given), False, repr(given))

    def test_any_value(self):
        for wrong in any_values():
            for number in (0, 1):
                self.assertIs(is_loop(FREE, number, wrong), False, repr(wrong))
                if wrong not in FREE:
                    for given in ((wrong, (-1,), ()), ((1,), wrong, ()), ((1,), (-1,), wrong), (wrong, wrong, wrong)):
                        self.assertIs(is_loop(FREE, number, given), False, repr(wrong))

    def test_long_loops(self):
        self.assertIs(is_loop(FREE, 1, ((1,) + (-1,) * 399, (-1,) * 400, (-1,) * 400)), True)
        self.assertIs(is_loop(FREE, 1, ((1,) + (-1,) * 399, (-1,) * 400, (-1,) * 399 + (1,))), False)
        self.assertIs(is_loop(FREE, 3, ((1,) + (-1,) * 399, (-1,) * 400, (-1,) * 399 + (1,))), True)

    def test_what_is_handed_in_is_not_changed(self):
        given = [[1], [-1], []]
        is_loop(FREE, 1, given)
        self.assertEqual(given, [[1], [-1], []])
        held = ([1], [-1], [])
        is_loop(FREE, 1, held)
        self.assertEqual(held, ([1], [-1], []))


class ErrorsTest(Checks):
    def test_no_scheme(self):
        self.check_no_scheme(loop, 7)
        self.check_no_scheme(is_loop, 7, ((1,), (-1,), ()))

    def test_no_integer(self):
        for scheme in (signed(), FREE):
            self.check_no_number(loop, scheme)
            self.check_no_number(is_loop, scheme, ((1,), (-1,), ()))
