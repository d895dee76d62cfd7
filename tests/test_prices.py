"""Prices of rows, and the cheapest plain row of a number [12], [61], [62]."""

from oddfigures import prices as prices_module
from oddfigures.counts import plain_count
from oddfigures.errors import InvalidNumber, InvalidPrices, InvalidRow, NotScheme
from oddfigures.places import is_written
from oddfigures.prices import cheapest, is_cheapest, potentials, price_of
from oddfigures.schemes import Scheme, plain_scheme
from tests.checks import Checks
from tests.reference import (
    HUNDRED, SURPLUS, depth_for, edge_schemes, is_plain, is_row, mixed_schemes, plain_rows_by_value, price,
    some_prices, value,
)
from tests.values import any_values, signed

FREE = Scheme(2, [-1, 0, 1])
FREE_PRICES = {-1: 3, 0: 1, 1: 3}
SIX = Scheme(2, [-9, -8, -3, 0, 7, 9], bars=[(7, 7), (9, -9)])


def no_prices():
    """Values that are no prices of FREE."""
    return [
        value for value in any_values() if value != FREE_PRICES
    ] + [
        {-1: 3, 0: 1}, {0: 1, 1: 3}, {-1: 3, 0: 1, 1: 3, 2: 0}, {-1: 3, 0: 1, 2: 3}, {-1: 3, 0: 1, "1": 3},
        {-1: 3, 0: 1, None: 3}, {-1: 3, 0: 1, (1,): 3}, {-1: 3, 0: 1, True: 3}, {-1: 3, False: 1, 1: 3},
        {-1: 3, 0: 1, 1: -1}, {-1: 3, 0: 1, 1: 1001}, {-1: 3, 0: 1001, 1: 3}, {-1: -1, 0: 1, 1: 3},
        {-1: 3, 0: 1, 1: None},
        {-1: 3, 0: 1, 1: True}, {-1: False, 0: 1, 1: 3}, {-1: 3, 0: "1", 1: 3}, {-1: 3, 0: [1], 1: 3},
        {-1: (3,), 0: 1, 1: 3},
        {-1: 3, 0: 1, 1: FREE}, {-1: 3, 0: {}, 1: 3}, {-1: 3, 0: 1, 1: HUNDRED}, {-1: -HUNDRED, 0: 1, 1: 3},
        {-1: 3, 0: 1, 1: 3, True: 3, None: 0}, {-1: 3, 0: 1, 1: 3, "": 0}, [(-1, 3), (0, 1), (1, 3)], [3, 1, 3],
        ((-1, 3), (0, 1), (1, 3)), (3, 1, 3), "3 1 3",
    ]


class PriceTest(Checks):
    def test_sums_of_prices(self):
        for scheme in edge_schemes() + mixed_schemes(30, 6):
            for prices in some_prices(scheme):
                for rows in plain_rows_by_value(scheme, depth_for(scheme, 200)).values():
                    for row in rows:
                        found = price_of(scheme, row, prices)
                        self.check_integers(found)
                        self.assertEqual(found, price(row, prices))

    def test_some_rows(self):
        self.assertEqual(price_of(FREE, (1, 1, 1), FREE_PRICES), 9)
        self.assertEqual(price_of(FREE, (), FREE_PRICES), 0)
        self.assertEqual(price_of(FREE, (0, 0, 1), FREE_PRICES), 5)
        self.assertEqual(price_of(FREE, (0,), FREE_PRICES), 1)
        self.assertEqual(price_of(FREE, (1, 0, -1) * 133, FREE_PRICES), 931)
        self.assertEqual(price_of(FREE, (1,) * 400, {-1: 0, 0: 0, 1: 1000}), 400000)
        self.assertEqual(price_of(FREE, (0, -1) * 200, {-1: 0, 0: 0, 1: 1000}), 0)
        self.assertEqual(price_of(prices={0: 2, -1: 5, 1: 3}, row=(1, 0, -1), scheme=FREE), 10)

    def test_the_order_of_the_keys_does_not_matter(self):
        for prices in ({-1: 3, 0: 1, 1: 3}, {1: 3, 0: 1, -1: 3}, {0: 1, 1: 3, -1: 3}):
            self.assertEqual(price_of(FREE, (1, 0, -1), prices), 7)
            self.assertEqual(cheapest(FREE, 7, prices), (8, (1, 0, 0, -1)))


class CheapestTest(Checks):
    def check_cheapest(self, scheme, number, prices):
        found = cheapest(scheme, number, prices)
        if found is not None:
            self.assertIs(found.__class__, tuple)
            amount, row = found
            self.check_integers(amount)
            self.check_row(row)
            self.assertTrue(is_row(scheme, row) and is_plain(row))
            self.assertEqual((value(scheme.base, row), price(row, prices)), (number, amount))
            self.assertIs(is_cheapest(scheme, number, prices, row, potentials(scheme, number, prices)), True)
        return found

    def test_none_of_the_short_rows_is_cheaper(self):
        for scheme in edge_schemes() + mixed_schemes(80, 6):
            found = plain_rows_by_value(scheme, depth_for(scheme))
            for prices in some_prices(scheme):
                for number in [*range(-6, 7), *list(found)[-2:]]:
                    best = self.check_cheapest(scheme, number, prices)
                    self.assertIs(best is not None, is_written(scheme, number))
                    for row in found.get(number, []):
                        self.assertLessEqual(best[0], price(row, prices), (str(scheme), number, prices))

    def test_some_numbers(self):
        for scheme, number, prices, expected in [
            (FREE, 7, FREE_PRICES, (8, (1, 0, 0, -1))), (FREE, 0, FREE_PRICES, (0, ())),
            (FREE, 7, {-1: 9, 0: 9, 1: 3}, (9, (1, 1, 1))), (FREE, 1, {-1: 5, 0: 0, 1: 5}, (5, (1,))),
            (plain_scheme(2), 6, {0: 1000, 1: 0}, (1000, (1, 1, 0))),
            (signed(), 7, FREE_PRICES, (8, (1, 0, 0, -1))), (Scheme(2, [0, 1, 2]), 2, {0: 1, 1: 1, 2: 3}, (2, (1, 0))),
            (Scheme(2, [0, 1, 2]), 2, {0: 1, 1: 1, 2: 1}, (1, (2,))), (plain_scheme(2), -1, {0: 1, 1: 1}, None),
            (Scheme(2, [0, 2]), 1, {0: 0, 2: 0}, None), (Scheme(2, [0]), 5, {0: 1}, None),
            (Scheme(2, [0]), 0, {0: 1}, (0, ())),
            (SURPLUS, 0, {-6: 0, 7: 1}, (0, ())), (SURPLUS, 7, {-6: 1000, 7: 1}, (1, (7,))),
            (Scheme(2, [0, 1, 2, 3], bars=[(1, 1)]), 3, {0: 1, 1: 1, 2: 9, 3: 4}, (4, (3,))),
            (Scheme(2, [0, 1, 2, 3]), 3, {0: 1, 1: 1, 2: 9, 3: 4}, (2, (1, 1))),
        ]:
            self.assertEqual(cheapest(scheme, number, prices), expected)
            self.assertEqual(cheapest(prices=prices, number=number, scheme=scheme), expected)

    def test_a_longer_row_may_be_cheaper(self):
        self.assertEqual(cheapest(FREE, 15, {-1: 1, 0: 1, 1: 10}), (14, (1, 0, 0, 0, -1)))
        self.assertEqual(cheapest(FREE, 15, {-1: 1, 0: 3, 1: 5}), (15, (1, 0, 0, 0, -1)))
        self.assertEqual(cheapest(FREE, 15, {-1: 1, 0: 9, 1: 5}), (20, (1, 1, 1, 1)))

    def test_prices_of_0_and_of_1000(self):
        for scheme in edge_schemes():
            for number in (0, 1, -1, 5, -7, HUNDRED):
                for each in (0, 1000):
                    found = self.check_cheapest(scheme, number, {digit: each for digit in scheme.digits})
                    if found is not None and each == 0:
                        self.assertEqual(found[0], 0)

    def test_the_empty_row_is_free_of_charge(self):
        for scheme in edge_schemes():
            for prices in some_prices(scheme):
                self.assertEqual(cheapest(scheme, 0, prices)[0], 0)

    def test_plain_rows_alone(self):
        # With zeros in front a row costs as much where they are free, but it is not plain.
        for number in range(-9, 10):
            for prices in ({-1: 5, 0: 0, 1: 5}, {-1: 5, 0: 1, 1: 5}):
                row = cheapest(FREE, number, prices)[1]
                self.assertTrue(is_plain(row))

    def test_numbers_of_a_hundred_figures(self):
        for scheme in edge_schemes() + [SIX]:
            for prices in some_prices(scheme)[3:5]:
                for number in (HUNDRED, -HUNDRED):
                    found = self.check_cheapest(scheme, number, prices)
                    self.assertIs(found is None, plain_count(scheme, number) == 0)
        digits = f"{HUNDRED:b}"
        self.assertEqual(
            cheapest(plain_scheme(2), HUNDRED, {0: 1, 1: 1000}),
            (digits.count("0") + 1000 * digits.count("1"), tuple(int(digit) for digit in digits)),
        )

    def test_equal_calls_give_equal_results(self):
        for number in (7, HUNDRED):
            self.assertEqual(cheapest(FREE, number, FREE_PRICES), cheapest(FREE, number, dict(FREE_PRICES)))

    def test_what_is_handed_in_is_not_changed(self):
        prices = {1: 3, -1: 3, 0: 1}
        amounts = potentials(FREE, 7, prices)
        given = list(amounts)
        price_of(FREE, (1, 0), prices)
        cheapest(FREE, 7, prices)
        is_cheapest(FREE, 7, prices, (1, 0, 0, -1), given)
        self.assertEqual(list(prices.items()), [(1, 3), (-1, 3), (0, 1)])
        self.assertEqual(given, amounts)


class ErrorsTest(Checks):
    def test_no_scheme(self):
        self.check_no_scheme(price_of, (1,), FREE_PRICES)
        self.check_no_scheme(cheapest, 7, FREE_PRICES)
        self.check_no_scheme(potentials, 7, FREE_PRICES)
        self.check_no_scheme(is_cheapest, 7, FREE_PRICES, (1, 1, 1), [])

    def test_no_integer(self):
        for function in (cheapest, potentials):
            self.check_no_number(function, FREE, FREE_PRICES)
        self.check_no_number(is_cheapest, FREE, FREE_PRICES, (1, 1, 1), [])

    def test_no_row(self):
        for scheme in (FREE, signed()):
            no_rows = [row for row in any_values() if row not in scheme]
            for wrong in no_rows + [(1, 2), (1, True), (1, None), [1, 0]]:
                self.check_error(InvalidRow, "row", wrong, price_of, scheme, wrong, FREE_PRICES)
                self.check_error(InvalidRow, "row", wrong, price_of, scheme, wrong, None)
        barred = (1, 1)
        self.check_error(InvalidRow, "row", barred, price_of, signed(), barred, FREE_PRICES)
        self.assertEqual(price_of(FREE, barred, FREE_PRICES), 6)

    def test_no_prices(self):
        for wrong in no_prices():
            self.check_error(InvalidPrices, "prices", wrong, price_of, FREE, (), wrong)
            self.check_error(InvalidPrices, "prices", wrong, price_of, FREE, (1, 0), wrong)
            for number in (0, 7, HUNDRED):
                self.check_error(InvalidPrices, "prices", wrong, cheapest, FREE, number, wrong)
                self.check_error(InvalidPrices, "prices", wrong, potentials, FREE, number, wrong)
                self.check_error(InvalidPrices, "prices", wrong, is_cheapest, FREE, number, wrong, None, None)
                self.check_error(InvalidPrices, "prices", wrong, is_cheapest, FREE, number, wrong, (1, 1, 1), [])

    def test_prices_of_another_scheme(self):
        for wrong in (FREE_PRICES, {0: 1, 1: 1, 2: 1}, {0: 1}, {}):
            for scheme in (plain_scheme(2), plain_scheme(4), Scheme(2, [-1, 1])):
                self.check_error(InvalidPrices, "prices", wrong, cheapest, scheme, 0, wrong)
                self.check_error(InvalidPrices, "prices", wrong, price_of, scheme, (), wrong)

    def test_prices_within_the_bounds(self):
        for least in (0, 1, 999, 1000):
            self.assertEqual(price_of(FREE, (1,), {-1: 0, 0: 1000, 1: least}), least)

    def test_order(self):
        for given, error_class in [
            ((None, (9,), None), NotScheme), ((FREE, (9,), None), InvalidRow), ((FREE, (1,), None), InvalidPrices),
        ]:
            with self.assertRaises(error_class):
                price_of(*given)
        for function in (cheapest, potentials, lambda *given: is_cheapest(*given, None, None)):
            for given, error_class in [
                ((None, None, None), NotScheme), ((FREE, None, None), InvalidNumber),
                ((FREE, True, None), InvalidNumber),
                ((FREE, 1, None), InvalidPrices),
            ]:
                with self.assertRaises(error_class):
                    function(*given)


class InterfaceTest(Checks):
    def test_names_and_parameters(self):
        for function, parameters in [
            (prices_module.price_of, "(scheme, row, prices)"), (prices_module.cheapest, "(scheme, number, prices)"),
            (prices_module.potentials, "(scheme, number, prices)"),
            (prices_module.is_cheapest, "(scheme, number, prices, row, amounts)"),
        ]:
            self.check_interface("oddfigures.prices", function, parameters)
