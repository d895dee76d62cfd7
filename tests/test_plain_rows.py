"""How many plain rows a number has, and which [3], [42]."""

import itertools

from oddfigures.counts import plain_count, plain_rows
from oddfigures.errors import InvalidLength, InvalidNumber, NotScheme
from oddfigures.places import is_written
from oddfigures.schemes import Scheme, plain_scheme
from tests.checks import Checks, no_integers_within
from tests.reference import (
    HUNDRED, SURPLUS, count_of_plain_rows, counts_by_length, depth_for, edge_schemes, is_plain, is_row, mixed_schemes,
    plain_rows_by_value, value,
)
from tests.values import any_values, signed

FREE = Scheme(2, [-1, 0, 1])
TWOS = Scheme(2, [0, 1, 2])


def twos_count(number):
    """How many rows of 0, 1 and 2 in base 2 a number has, by a rule of its own."""
    known = {-1: 0, 0: 1}

    def told(rest):
        if rest not in known:
            half = rest // 2
            known[rest] = told(half) if rest % 2 else told(half) + told(half - 1)
        return known[rest]

    return told(number)


class CountTest(Checks):
    def test_counts_of_many_schemes(self):
        for scheme in edge_schemes() + mixed_schemes(120, 6):
            for number in range(-9, 10):
                found = plain_count(scheme, number)
                self.assertEqual(found, count_of_plain_rows(scheme, number), (str(scheme), number))
                if found is not None:
                    self.check_integers(found)

    def test_some_counts(self):
        for scheme, number, expected in [
            (FREE, 0, 1), (FREE, 1, None), (FREE, -5, None), (signed(), 7, 1), (signed(), 0, 1),
            (plain_scheme(2), 5, 1),
            (plain_scheme(2), -5, 0), (plain_scheme(-2), -5, 1), (SURPLUS, 0, None), (Scheme(2, [0, 2]), 3, 0),
            (Scheme(2, [0]), 0, 1), (Scheme(2, [0]), 1, 0), (TWOS, 0, 1), (TWOS, 4, 3), (TWOS, 2, 2),
            (Scheme(2, [1, 2]), 100, 1), (Scheme(2, [-2, -1]), -100, 1), (Scheme(2, [-2, -1]), 100, 0),
            (Scheme(3, [0, 1, 2, 3, 6]), 6, 3), (Scheme(3, [0, 3]), 0, 1), (Scheme(2, [2, -4, 0]), 0, None),
            (Scheme(2, [2, -4], bars=[(2, 2), (2, -4)]), 0, 1),
        ]:
            self.assertEqual(plain_count(scheme, number), expected, (str(scheme), number))

    def test_the_empty_row_is_one_of_those_of_0(self):
        scheme = Scheme(2, [-2, 0, 1])
        self.assertEqual((plain_count(scheme, 0), plain_rows(scheme, 0, 9)[:2]), (None, [(), (1, -2)]))
        # Here 0 has no other plain rows than the empty one and (1, -2).
        barred = scheme.barred([(-2, 1), (-2, -2), (-2, 0), (1, 1), (0, 1), (0, 0), (0, -2)])
        self.assertEqual((plain_count(barred, 0), plain_rows(barred, 0, 9)), (2, [(), (1, -2)]))

    def test_great_counts(self):
        number = 10 ** 99 // 3
        self.assertEqual(plain_count(TWOS, number), twos_count(number))
        self.assertEqual(plain_count(TWOS, HUNDRED), twos_count(HUNDRED))
        self.assertGreater(plain_count(Scheme(2, [0, 1, 2, 3, 4, 5]), HUNDRED), 10 ** 100)

    def test_numbers_of_a_hundred_figures(self):
        for scheme in edge_schemes():
            for number in (HUNDRED, -HUNDRED):
                found = plain_count(scheme, number)
                rows = plain_rows(scheme, number, 3)
                self.assertEqual(len(rows), 3 if found is None else min(3, found))
                if number == HUNDRED and scheme == plain_scheme(2):
                    self.assertEqual((found, rows), (1, [tuple(int(digit) for digit in f"{number:b}")]))
                for row in rows:
                    self.assertTrue(is_row(scheme, row) and is_plain(row) and value(scheme.base, row) == number)

    def test_arguments_by_name(self):
        self.assertEqual(plain_count(number=4, scheme=TWOS), 3)
        self.assertEqual(plain_rows(most=2, number=4, scheme=TWOS), [(1, 2), (2, 0)])


class RowsTest(Checks):
    def check_rows(self, rows):
        self.assertIs(rows.__class__, list)
        for row in rows:
            self.check_row(row)

    def test_all_short_rows(self):
        for scheme in edge_schemes() + mixed_schemes(120, 6):
            length = depth_for(scheme)
            found = plain_rows_by_value(scheme, length)
            for number in range(-9, 10):
                expected = found.get(number, [])
                rows = plain_rows(scheme, number, len(expected))
                self.check_rows(rows)
                self.assertEqual(rows, expected, (str(scheme), number))
                for row in plain_rows(scheme, number, len(expected) + 1)[len(expected):]:
                    self.assertGreater(len(row), length)
                    self.assertTrue(is_row(scheme, row) and is_plain(row) and value(scheme.base, row) == number)

    def test_each_most_gives_the_first_rows(self):
        for scheme, number in [(FREE, 3), (TWOS, 100), (SURPLUS, 1), (Scheme(-2, [-1, 0, 1]), 5), (TWOS, 0), (FREE, 0)]:
            rows = plain_rows(scheme, number, 40)
            for most in range(41):
                self.assertEqual(plain_rows(scheme, number, most), rows[:most])

    def test_the_documents_rows(self):
        self.assertEqual(plain_rows(FREE, 3, 4), [(1, 1), (1, -1, 1), (1, 0, -1), (1, -1, -1, 1)])

    def test_most_0_and_most_1000(self):
        for scheme in edge_schemes():
            for number in (0, 1, -3, HUNDRED):
                self.assertEqual(plain_rows(scheme, number, 0), [])
                rows = plain_rows(scheme, number, 1000)
                many = plain_count(scheme, number)
                self.assertEqual(len(rows), 1000 if many is None else min(many, 1000), (str(scheme), number))
                self.assertEqual(rows, sorted(rows, key=lambda row: (len(row), row)))
                self.assertEqual(len(set(rows)), len(rows))
                for row in rows[:20] + rows[-3:]:
                    self.check_row(row)
                    self.assertTrue(is_row(scheme, row) and is_plain(row) and value(scheme.base, row) == number)

    def check_first_rows(self, scheme, number, most):
        """Check that the first rows are in order, each right and there once, and all rows of the shorter lengths."""
        rows = plain_rows(scheme, number, most)
        self.assertEqual(rows, sorted(rows, key=lambda row: (len(row), row)))
        self.assertEqual(len(set(rows)), len(rows))
        for row in rows:
            self.assertTrue(row in scheme and is_plain(row) and scheme.value_of(row) == number)
        lengths = [len(row) for row in rows]
        counts = counts_by_length(scheme, number, max(lengths, default=0))
        self.assertEqual([lengths.count(length) for length in range(len(counts) - 1)], counts[:-1])
        # Not all rows of the last length need be there.
        self.assertLessEqual(len(rows), sum(counts))
        return len(rows)

    def test_no_row_is_left_out_and_none_is_too_much(self):
        for scheme, number in [
            (FREE, 1), (FREE, 5), (Scheme(-2, [-1, 0, 1]), 1), (Scheme(3, [-3, -1, 0, 1, 2]), 4),
            (Scheme(2, [-6, 0, 7]), 0), (Scheme(2, [-6, -1, 0, 7], bars=[(7, 7)]), 2), (Scheme(2, [-4, -1, 0, 3]), 0),
            (Scheme(2, [-6, 7, 8], bars=[(8, 8), (8, -6), (7, 8), (8, 7)]), 8),
        ]:
            self.assertEqual(self.check_first_rows(scheme, number, 1000), 1000)

    def test_a_thousand_rows_of_many_schemes(self):
        for scheme in mixed_schemes(120, 5, seed=9):
            for number in (0, 1, -5):
                many = plain_count(scheme, number)
                self.assertEqual(self.check_first_rows(scheme, number, 120), 120 if many is None else min(many, 120))

    def test_several_rows_far_from_each_other(self):
        # There are always as many ways round the cycle, few or many, and the rows end outside of it.
        for many in range(1, 6):
            pairs = [(-6, 8), (7, 8), (8, -6), (8, 7), (8, 8)]
            scheme = Scheme(2, [-6, 7, 8], bars=pairs[:many])
            for number in (2, -7, 10, HUNDRED):
                found = plain_count(scheme, number)
                self.assertEqual(self.check_first_rows(scheme, number, 150), 150 if found is None else min(found, 150))

    def test_all_rows_of_numbers_with_many_long_ones(self):
        for number, many in [
            (2 ** 70, 71), (2 ** 200, 201), (2 ** 90 + 2 ** 80, 890), (3 * 2 ** 130, 261),
            (2 ** 66 + 2 ** 59 + 2, 934),
        ]:
            self.assertEqual(twos_count(number), many)
            self.assertEqual(self.check_first_rows(TWOS, number, 1000), many)
            rows = plain_rows(TWOS, number, 1000)
            for most in (1, 10, 11, 12, many - 1, many, many + 1):
                self.assertEqual(plain_rows(TWOS, number, most), rows[:most])

    def test_rows_of_all_lengths(self):
        rows = plain_rows(FREE, 1, 1000)
        self.assertEqual(rows, [(1,) + (-1,) * length for length in range(1000)])

    def test_rows_of_unlike_lengths_that_are_far_from_each_other(self):
        rows = plain_rows(SURPLUS, 0, 1000)
        self.assertEqual([len(row) for row in rows], list(range(0, 12000, 12)))
        for at in range(1, 1000):
            self.assertEqual(rows[at], rows[1] + rows[at - 1])
        self.assertEqual(value(2, rows[1]), 0)
        self.assertEqual(value(2, rows[40]), 0)

    def test_a_number_without_rows(self):
        for scheme, number in [(plain_scheme(2), -1), (Scheme(2, [0, 2]), 1), (Scheme(2, [0]), 5), (Scheme(5, [3]), 4)]:
            for most in (0, 1, 1000):
                self.assertEqual(plain_rows(scheme, number, most), [])

    def test_there_are_rows_just_for_written_numbers(self):
        # Leading digits 0 may be left out, unless a number is 0 and its row the empty one.
        for scheme in edge_schemes() + mixed_schemes(60, 6, seed=7):
            for number in range(-15, 16):
                self.assertIs(plain_rows(scheme, number, 1) != [], is_written(scheme, number))
                self.assertIs(plain_count(scheme, number) != 0, is_written(scheme, number))

    def test_many_short_rows(self):
        scheme = Scheme(2, [0, 1, 2, 3, 4, 5])
        expected = plain_rows_by_value(scheme, 5)[40]
        self.assertEqual(plain_rows(scheme, 40, len(expected)), expected)

    def test_the_order_of_rows_of_one_length(self):
        scheme = Scheme(-2, [-3, -2, -1, 0, 1, 2])
        rows = plain_rows(scheme, 3, 1000)
        for length, group in itertools.groupby(rows, len):
            group = list(group)
            self.assertEqual(group, sorted(group))

    def test_what_is_returned_may_be_changed(self):
        for scheme, number in ((FREE, 3), (SURPLUS, 0), (TWOS, HUNDRED), (FREE, 0)):
            rows = plain_rows(scheme, number, 30)
            again = list(rows)
            rows.clear()
            rows.append(None)
            self.assertEqual(plain_rows(scheme, number, 30), again)


class ErrorsTest(Checks):
    def test_no_scheme(self):
        self.check_no_scheme(plain_count, 7)
        self.check_no_scheme(plain_rows, 7, 3)

    def test_no_integer(self):
        for scheme in (signed(), plain_scheme(2)):
            self.check_no_number(plain_count, scheme)
            self.check_no_number(plain_rows, scheme, 3)
            self.check_no_number(plain_rows, scheme, -1)

    def test_no_length(self):
        for wrong in no_integers_within(0, 1000) + [-1, 1001]:
            for number in (0, 7, -1):
                self.check_error(InvalidLength, "length", wrong, plain_rows, plain_scheme(2), number, wrong)

    def test_order(self):
        for wrong in any_values():
            if not isinstance(wrong, Scheme):
                self.check_error(NotScheme, "value", wrong, plain_rows, wrong, None, None)
        self.check_error(InvalidNumber, "number", True, plain_rows, signed(), True, 1001)
        self.check_error(InvalidNumber, "number", None, plain_rows, signed(), None, -1)
