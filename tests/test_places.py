"""Places, steps and the core [4], [5], [31]."""

from oddfigures import places
from oddfigures.errors import InvalidNumber, NotScheme, UnknownDigit
from oddfigures.places import core, steps
from oddfigures.schemes import Scheme, plain_scheme
from tests.checks import Checks
from tests.reference import HUNDRED, edge_schemes, mixed_schemes, steps_from
from tests.values import BASES, any_values, signed


class CoreTest(Checks):
    def test_the_greatest_integer_not_greater_than_the_quotient(self):
        for base in BASES:
            for digits in ([0], [1], [-9, 8], [9], [-5, -2, 0, 1, 2, 3], [-1, 0, 1], [0, 7], [-6, 7], [-4, -3], [2, 4]):
                scheme = Scheme(base, digits, bars=[(digits[0], digits[0])])
                most = max(abs(digit) for digit in digits)
                found = core(scheme)
                self.check_integers(found)
                self.assertLessEqual(found * (abs(base) - 1), most)
                self.assertGreater((found + 1) * (abs(base) - 1), most)

    def test_some_cores(self):
        for scheme, expected in [
            (signed(), 1), (plain_scheme(2), 1), (Scheme(2, [-9, 0]), 9), (Scheme(-2, [-9, 0]), 9), (Scheme(3, [7]), 3),
            (Scheme(6, [-4, 4]), 0), (Scheme(6, [5]), 1), (Scheme(-6, [9]), 1), (Scheme(4, [-8, 1]), 2),
            (Scheme(5, [0]), 0),
        ]:
            self.assertEqual(core(scheme), expected)
            self.assertEqual(core(scheme=scheme), expected)

    def test_rests_become_smaller_until_they_are_in_the_core(self):
        for scheme in edge_schemes() + mixed_schemes(60, 6):
            most = core(scheme)
            for rest in range(-60, 61):
                for other, _ in steps(scheme, rest):
                    if abs(rest) > most:
                        self.assertLess(abs(other), abs(rest))
                    else:
                        self.assertLessEqual(abs(other), most)

    def test_errors(self):
        self.check_no_scheme(core)


class StepsTest(Checks):
    def test_the_documents_places(self):
        self.assertEqual(steps(signed(), 7), [(4, -1), (3, 1)])
        self.assertEqual(steps(signed(), 7, None), [(4, -1), (3, 1)])
        self.assertEqual(steps(signed(), 7, 1), [])
        self.assertEqual(steps(signed(), 7, 0), [(4, -1), (3, 1)])
        self.assertEqual(steps(Scheme(3, [0, 1, 5]), -1), [(-2, 5)])

    def test_all_steps_of_many_schemes(self):
        for scheme in edge_schemes() + mixed_schemes(60, 6):
            for rest in [*range(-25, 26), HUNDRED, -HUNDRED]:
                for right in (None, *scheme.digits):
                    found = steps(scheme, rest, right)
                    self.check_places(found)
                    self.assertEqual(found, steps_from(scheme, (rest, right)))

    def test_ascending_order_of_the_digits(self):
        scheme = Scheme(-2, [5, -9, 3, 0, -8, 2])
        self.assertEqual([digit for _, digit in steps(scheme, 1)], [-9, 3, 5])
        self.assertEqual(steps(scheme, 1), [(-5, -9), (1, 3), (2, 5)])
        self.assertEqual(steps(scheme, 0), [(-4, -8), (0, 0), (1, 2)])

    def test_bars_count_from_the_left_to_the_right(self):
        scheme = Scheme(2, [0, 1], bars=[(1, 0)])
        self.assertEqual(steps(scheme, 3, 0), [])
        self.assertEqual(steps(scheme, 3, 1), [(1, 1)])
        self.assertEqual(steps(scheme, 2, 1), [(1, 0)])
        self.assertEqual(steps(scheme, 3), [(1, 1)])

    def test_all_pairs_barred(self):
        scheme = Scheme(3, [1, 2], bars=[(1, 1), (1, 2), (2, 1), (2, 2)])
        self.assertEqual(steps(scheme, 4), [(1, 1)])
        for right in (1, 2):
            self.assertEqual(steps(scheme, 4, right), [])

    def test_one_place_has_no_other_steps_than_the_digits_give(self):
        self.assertEqual(steps(Scheme(2, [0, 2]), 1), [])
        self.assertEqual(steps(Scheme(2, [0, 2]), 0), [(0, 0), (-1, 2)])
        self.assertEqual(steps(plain_scheme(-6), -1), [(1, 5)])

    def test_arguments_by_name(self):
        self.assertEqual(steps(right=0, rest=7, scheme=signed()), [(4, -1), (3, 1)])
        self.assertEqual(steps(signed(), rest=7), [(4, -1), (3, 1)])

    def test_the_list_is_new_on_every_call(self):
        scheme = signed()
        first = steps(scheme, 7)
        first.clear()
        first.append(None)
        self.assertEqual(steps(scheme, 7), [(4, -1), (3, 1)])
        self.assertIsNot(steps(scheme, 7), steps(scheme, 7))

    def test_numbers_somewhat_beyond_a_hundred_figures(self):
        self.assertEqual(steps(plain_scheme(2), 2 ** 500), [(2 ** 499, 0)])


class ErrorsTest(Checks):
    def test_no_scheme(self):
        self.check_no_scheme(steps, 7)
        self.check_no_scheme(steps, 7, 1)

    def test_no_integer(self):
        self.check_no_number(steps, signed())
        self.check_no_number(steps, signed(), 1)

    def test_no_digit(self):
        scheme = Scheme(2, [0, 1, -3])
        for wrong in any_values():
            if wrong is None or wrong.__class__ is int and wrong in (0, 1, -3):
                continue
            self.check_error(UnknownDigit, "digit", wrong, steps, scheme, 7, wrong)

    def test_order(self):
        for given, error_class in [
            ((None, None, "x"), NotScheme), ((signed(), None, "x"), InvalidNumber),
            ((signed(), True, None), InvalidNumber),
            ((signed(), 1, 2), UnknownDigit), ((signed(), 1, True), UnknownDigit), ((signed(), 1, False), UnknownDigit),
        ]:
            with self.assertRaises(error_class):
                steps(*given)


class InterfaceTest(Checks):
    def test_names_and_parameters(self):
        for function, parameters in [
            (places.core, "(scheme)"), (places.steps, "(scheme, rest, right=None)"),
            (places.is_written, "(scheme, number, right=None)"), (places.writing, "(scheme, number, right=None)"),
            (places.closed_list, "(scheme, number, right=None)"),
            (places.is_closed_list, "(scheme, number, value, right=None)"),
        ]:
            self.check_interface("oddfigures.places", function, parameters)
