"""Two plain rows with one value [12], [51]."""

from oddfigures import oneway
from oddfigures.counts import plain_count
from oddfigures.oneway import difference_paper, one_way, two_rows
from oddfigures.schemes import Scheme, plain_scheme
from tests.checks import Checks
from tests.reference import (
    SURPLUS, depth_for, edge_schemes, every_pair, is_plain, is_row, mixed_schemes, plain_rows_by_value, shows_one_way,
    value,
)
from tests.values import BASES, signed

SIX = [
    Scheme(2, [-9, -8, -3, 0, 7, 9]), Scheme(6, [-3, -2, -1, 0, 1, 2]), Scheme(-6, [0, 1, 2, 3, 4, 5]),
    Scheme(2, [-9, -5, -1, 3, 7, 8], bars=every_pair((-9, -5, -1, 3, 7))), Scheme(6, [-9, -8, 2, 1, 6, 5]),
    Scheme(-2, [-5, -3, -1, 1, 3, 5]), Scheme(5, [-9, -4, 0, 1, 2, 3], bars=[(-4, -4), (1, -9), (-9, -9)]),
]


class TwoRowsTest(Checks):
    def check_two(self, scheme, found):
        self.assertIs(found.__class__, tuple)
        self.assertEqual(len(found), 2)
        for row in found:
            self.check_row(row)
            self.assertTrue(is_row(scheme, row) and is_plain(row))
        self.assertNotEqual(*found)
        self.assertEqual(value(scheme.base, found[0]), value(scheme.base, found[1]))

    def length_of_longer(self, scheme, length):
        """The length of the longer one of two rows with one value, if there are two with so many digits."""
        found = plain_rows_by_value(scheme, length)
        return min((len(rows[1]) for rows in found.values() if len(rows) > 1), default=None)

    def test_two_rows_of_many_schemes(self):
        for scheme in edge_schemes() + mixed_schemes(250, 6) + SIX:
            found = two_rows(scheme)
            length = depth_for(scheme)
            shortest = self.length_of_longer(scheme, length)
            if found is None:
                self.assertIsNone(shortest)
                self.assertTrue(shows_one_way(scheme, difference_paper(scheme)))
            else:
                self.check_two(scheme, found)
                longer = max(len(found[0]), len(found[1]))
                if shortest is None:
                    self.assertGreater(longer, length)
                else:
                    self.assertEqual(longer, shortest, str(scheme))
            self.assertIs(one_way(scheme), found is None)

    def test_some_schemes(self):
        for scheme, longer in [
            (signed(), None), (Scheme(2, [-1, 0, 1]), 2), (plain_scheme(2), None), (plain_scheme(-6), None),
            (Scheme(3, [-7, 0, 1]), None), (Scheme(3, [0, 1, 5]), None), (Scheme(2, [0, 1, 2]), 2), (SURPLUS, 12),
            (Scheme(2, [1, 2]), None), (Scheme(2, [0]), None), (Scheme(2, [-2, 1]), 2), (Scheme(3, [0, 1, 3, 4]), 2),
            (Scheme(2, [0, 1, 3]), 2), (Scheme(2, [0, 1, 5]), 3), (Scheme(2, [0, 1, 9]), 4), (Scheme(2, [0, 1, -7]), 4),
            (Scheme(2, [-1, 0, 1]).barred([(1, 1), (-1, -1)]), 2), (Scheme(5, [-5, 1]), 2), (Scheme(-5, [5, 1]), 2),
        ]:
            found = two_rows(scheme)
            self.assertIs(one_way(scheme), longer is None, str(scheme))
            if longer is None:
                self.assertIsNone(found)
            else:
                self.check_two(scheme, found)
                self.assertEqual(max(len(found[0]), len(found[1])), longer, str(scheme))

    def test_the_empty_row_may_be_one_of_them(self):
        for scheme in (SURPLUS, Scheme(2, [-2, 1]), Scheme(-3, [3, 1])):
            self.assertIn((), two_rows(scheme))

    def test_one_digit_for_each_remainder(self):
        for base in BASES:
            for most in (9, 5):
                firsts = {digit % base: digit for digit in range(9, -most - 1, -1)}
                scheme = Scheme(base, list(firsts.values()))
                self.assertEqual(len(scheme), abs(base))
                found = two_rows(scheme)
                if found is not None:
                    self.check_two(scheme, found)
                    # Digits that all have unlike remainders leave but one row of each length for a number.
                    self.assertNotEqual(len(found[0]), len(found[1]))

    def test_one_way_just_where_each_number_has_at_most_one_row(self):
        for scheme in edge_schemes() + mixed_schemes(60, 6, seed=2):
            if one_way(scheme):
                for number in range(-30, 31):
                    self.assertIn(plain_count(scheme, number), (0, 1))
            else:
                number = value(scheme.base, two_rows(scheme)[0])
                many = plain_count(scheme, number)
                self.assertTrue(many is None or many > 1)

    def test_rows_that_begin_with_0_do_not_count(self):
        self.assertIs(one_way(plain_scheme(2)), True)
        self.assertIs(one_way(Scheme(2, [0])), True)
        # 0 2 would be another row of 2, but it is not plain.
        self.assertIs(one_way(Scheme(2, [0, 1, 2], bars=[(1, 0), (2, 0)])), True)

    def test_bars_of_both_rows(self):
        # 2 is (1, 0) and (2,), 4 is (1, 2) and (2, 0): each bar takes away one of the rows of two digits.
        free = Scheme(2, [0, 1, 2])
        for bars, longer in [
            ([], 2), ([(1, 0)], 2), ([(1, 2)], 2), ([(2, 0)], 2), ([(1, 0), (1, 2)], None), ([(1, 0), (2, 0)], None),
        ]:
            found = two_rows(free.barred(bars))
            if longer is None:
                self.assertIsNone(found)
            else:
                self.check_two(free.barred(bars), found)
                self.assertEqual(max(len(found[0]), len(found[1])), longer)

    def test_arguments_by_name_and_equal_calls(self):
        self.assertEqual(two_rows(scheme=SURPLUS), two_rows(SURPLUS))
        self.assertIs(one_way(scheme=SURPLUS), False)


class ErrorsTest(Checks):
    def test_no_scheme(self):
        self.check_no_scheme(two_rows)
        self.check_no_scheme(one_way)
        self.check_no_scheme(difference_paper)
        self.check_no_scheme(oneway.is_difference_paper, [(False, 0, None, None)])


class InterfaceTest(Checks):
    def test_names_and_parameters(self):
        for function, parameters in [
            (oneway.two_rows, "(scheme)"), (oneway.one_way, "(scheme)"), (oneway.difference_paper, "(scheme)"),
            (oneway.is_difference_paper, "(scheme, value)"),
        ]:
            self.check_interface("oddfigures.oneway", function, parameters)
