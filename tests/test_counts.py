"""How many rows have one length, and their greatest and least values [41]."""

from oddfigures import counts
from oddfigures.counts import greatest, least, row_count
from oddfigures.errors import InvalidLength, NotScheme
from oddfigures.schemes import Scheme, plain_scheme
from tests.checks import Checks, no_integers_within
from tests.reference import SURPLUS, depth_for, edge_schemes, every_pair, mixed_schemes, rows_of, value
from tests.values import BASES, any_values, signed

SIX = [
    Scheme(2, [-9, -8, -3, 0, 7, 9]), Scheme(-6, [-9, -4, 0, 1, 5, 9], bars=[(9, 9), (-9, 5), (0, 0)]),
    Scheme(-2, [-9, -8, -7, -6, -5, -4]), Scheme(6, [4, 5, 6, 7, 8, 9], bars=[(9, 9), (4, 4), (4, 5)]),
]


def power(base, exponent):
    return base ** exponent


class LengthsTest(Checks):
    def test_all_short_lengths(self):
        for scheme in edge_schemes() + mixed_schemes(150, 6):
            for length in range(depth_for(scheme) + 1):
                values = [value(scheme.base, row) for row in rows_of(scheme, length)]
                self.assertEqual(row_count(scheme, length), len(values), str(scheme))
                self.assertEqual(greatest(scheme, length), max(values, default=None), str(scheme))
                self.assertEqual(least(scheme, length), min(values, default=None), str(scheme))

    def test_length_0(self):
        for scheme in edge_schemes():
            self.assertEqual((row_count(scheme, 0), greatest(scheme, 0), least(scheme, 0)), (1, 0, 0))

    def test_length_1(self):
        for scheme in edge_schemes():
            self.assertEqual(row_count(scheme, 1), len(scheme))
            self.assertEqual((least(scheme, 1), greatest(scheme, 1)), (scheme.digits[0], scheme.digits[-1]))

    def test_the_documents_values(self):
        free = Scheme(2, [-1, 0, 1])
        self.assertEqual((row_count(free, 3), greatest(free, 4), least(free.barred([(-1, -1)]), 2)), (27, 15, -2))

    def test_all_pairs_barred(self):
        scheme = Scheme(-3, [1, 2, 6], bars=every_pair((1, 2, 6)))
        self.assertEqual([row_count(scheme, length) for length in (0, 1, 2, 3, 1000)], [1, 3, 0, 0, 0])
        self.assertEqual([greatest(scheme, length) for length in (0, 1, 2, 3, 1000)], [0, 6, None, None, None])
        self.assertEqual([least(scheme, length) for length in (0, 1, 2, 3, 1000)], [0, 1, None, None, None])

    def test_rows_that_come_to_an_end_later(self):
        scheme = Scheme(2, [0, 1, 2], bars=[(0, 0), (1, 1), (2, 2), (1, 0), (2, 1), (2, 0)])
        self.assertEqual([row_count(scheme, length) for length in range(6)], [1, 3, 3, 1, 0, 0])
        self.assertEqual([greatest(scheme, length) for length in range(6)], [0, 2, 4, 4, None, None])
        self.assertEqual([least(scheme, length) for length in range(6)], [0, 0, 1, 4, None, None])

    def test_digits_in_turn(self):
        scheme = Scheme(-2, [1, 4], bars=[(1, 1), (4, 4)])
        self.assertEqual([row_count(scheme, length) for length in (1, 2, 999, 1000)], [2, 2, 2, 2])
        for length in (999, 1000):
            values = [value(-2, (row * 500)[:length]) for row in ((1, 4), (4, 1))]
            self.assertEqual((least(scheme, length), greatest(scheme, length)), (min(values), max(values)))

    def test_length_1000_without_bars(self):
        for base in BASES:
            for digits in ([-1, 0, 1], [-9, -4], [3], [-6, 7], [4, 5, 6, 7, 8, 9]):
                scheme = Scheme(base, digits)
                low, high = min(digits), max(digits)
                self.assertEqual(row_count(scheme, 1000), power(len(digits), 1000))
                even = sum(power(base, k) for k in range(0, 1000, 2))
                odd = sum(power(base, k) for k in range(1, 1000, 2))
                self.assertEqual(least(scheme, 1000), low * even + (low if base > 0 else high) * odd)
                self.assertEqual(greatest(scheme, 1000), high * even + (high if base > 0 else low) * odd)

    def test_length_1000_with_bars(self):
        # No two digits other than 0 stand side by side: so many rows as 2 * 2 ** k - (-1) ** k, over 3.
        count, before = 3, 1
        for _ in range(999):
            count, before = count + 2 * before, count
        self.assertEqual(row_count(signed(), 1000), count)
        self.assertEqual(greatest(signed(), 1000), sum(power(2, k) for k in range(1, 1000, 2)))
        self.assertEqual(least(signed(), 1000), -sum(power(2, k) for k in range(1, 1000, 2)))
        self.assertEqual(greatest(signed().other_base(), 1000), sum(power(2, k) for k in range(1, 1000, 2)))
        self.assertEqual(least(plain_scheme(2).barred([(0, 0)]), 1000), sum(power(2, k) for k in range(0, 1000, 2)))

    def test_six_digits_at_length_1000(self):
        for scheme in SIX:
            many = row_count(scheme, 1000)
            high = greatest(scheme, 1000)
            low = least(scheme, 1000)
            self.check_integers(many, high, low)
            self.assertLess(low, high)
            self.assertEqual((greatest(-scheme, 1000), least(-scheme, 1000)), (-low, -high))
            self.assertEqual(row_count(-scheme, 1000), many)
            self.assertLess(row_count(scheme, 999), many)
            self.assertEqual(many == 6 ** 1000, scheme.bars == ())

    def test_surplus_digits(self):
        self.assertEqual((row_count(SURPLUS, 12), greatest(SURPLUS, 12), least(SURPLUS, 12)), (4096, 28665, -24570))

    def test_arguments_by_name(self):
        for function, expected in ((row_count, 9), (greatest, 3), (least, -3)):
            self.assertEqual(function(length=2, scheme=Scheme(2, [-1, 0, 1])), expected)

    def test_equal_calls_give_equal_results(self):
        for function in (row_count, greatest, least):
            self.assertEqual(function(signed(), 50), function(signed(), 50))


class ErrorsTest(Checks):
    def test_no_scheme(self):
        for function in (row_count, greatest, least):
            self.check_no_scheme(function, 3)

    def test_no_length(self):
        for function in (row_count, greatest, least):
            for scheme in (signed(), Scheme(2, [1], bars=[(1, 1)])):
                for wrong in no_integers_within(0, 1000) + [-1, 1001, 10 ** 99, -10 ** 99]:
                    self.check_error(InvalidLength, "length", wrong, function, scheme, wrong)

    def test_lengths_within_the_bounds(self):
        for function in (row_count, greatest, least):
            for length in (0, 1, 999, 1000):
                self.check_integers(function(signed(), length))

    def test_order(self):
        for function in (row_count, greatest, least):
            for wrong in any_values():
                if not isinstance(wrong, Scheme):
                    with self.assertRaises(NotScheme):
                        function(wrong, -1)


class InterfaceTest(Checks):
    def test_names_and_parameters(self):
        for function, parameters in [
            (counts.row_count, "(scheme, length)"), (counts.greatest, "(scheme, length)"),
            (counts.least, "(scheme, length)"), (counts.plain_count, "(scheme, number)"),
            (counts.plain_rows, "(scheme, number, most)"), (counts.loop, "(scheme, number)"),
            (counts.is_loop, "(scheme, number, value)"),
        ]:
            self.check_interface("oddfigures.counts", function, parameters)
