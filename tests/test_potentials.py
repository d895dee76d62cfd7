"""Amounts that show that no plain row of a number is cheaper [63]."""

import random

from oddfigures.places import is_written
from oddfigures.prices import cheapest, is_cheapest, potentials
from oddfigures.schemes import Scheme, plain_scheme
from tests.checks import Checks
from tests.reference import HUNDRED, SURPLUS, edge_schemes, mixed_schemes, price, reached, shows_cheapest, some_prices
from tests.values import any_values, signed

FREE = Scheme(2, [-1, 0, 1])
FREE_PRICES = {-1: 3, 0: 1, 1: 3}
SIX = Scheme(2, [-9, -8, -3, 0, 7, 9], bars=[(7, 7), (9, -9)])
ROW = (1, 0, 0, -1)


class PotentialsTest(Checks):
    def check_potentials(self, scheme, number, prices):
        amounts = potentials(scheme, number, prices)
        best = cheapest(scheme, number, prices)
        self.assertIs(amounts is None, best is None)
        if amounts is None:
            return
        self.assertIs(amounts.__class__, list)
        for item in amounts:
            self.assertIs(item.__class__, tuple)
            self.check_integers(item[1])
        self.check_places([place for place, _ in amounts])
        self.assertTrue(shows_cheapest(scheme, number, prices, best[1], amounts))
        self.assertIs(is_cheapest(scheme, number, prices, best[1], amounts), True)

    def test_potentials_of_many_schemes(self):
        for scheme in edge_schemes() + mixed_schemes(80, 6, seed=3):
            for prices in some_prices(scheme):
                for number in (0, 1, -1, 2, 7, -12, 100):
                    self.check_potentials(scheme, number, prices)

    def test_numbers_of_a_hundred_figures(self):
        for scheme in edge_schemes() + [SIX]:
            for number in (HUNDRED, -HUNDRED):
                self.check_potentials(scheme, number, some_prices(scheme)[4])

    def test_none_just_where_there_is_no_row(self):
        for scheme in edge_schemes():
            for number in range(-9, 10):
                amounts = potentials(scheme, number, some_prices(scheme)[0])
                self.assertIs(amounts is None, not is_written(scheme, number))

    def test_arguments_by_name(self):
        amounts = potentials(prices=FREE_PRICES, number=7, scheme=FREE)
        self.assertIs(is_cheapest(amounts=amounts, row=ROW, prices=FREE_PRICES, number=7, scheme=FREE), True)

    def test_what_is_returned_may_be_changed(self):
        amounts = potentials(FREE, 7, FREE_PRICES)
        again = list(amounts)
        amounts.clear()
        amounts.append(None)
        self.assertEqual(potentials(FREE, 7, FREE_PRICES), again)


class IsCheapestTest(Checks):
    def amounts(self):
        return potentials(FREE, 7, FREE_PRICES)

    def told(self, row, amounts, number=7):
        return is_cheapest(FREE, number, FREE_PRICES, row, amounts)

    def test_the_documents_rows(self):
        self.assertIs(self.told(ROW, self.amounts()), True)
        self.assertIs(self.told((1, 1, 1), self.amounts()), False)

    def test_another_order_and_tuples(self):
        amounts = self.amounts()
        for given in (amounts[::-1], tuple(amounts), tuple(amounts[::-1]), amounts[3:] + amounts[:3]):
            self.assertIs(self.told(ROW, given), True)

    def test_each_of_several_cheapest_rows(self):
        prices = {0: 1, 1: 1, 2: 2}
        scheme = Scheme(2, [0, 1, 2])
        amounts = potentials(scheme, 2, prices)
        self.assertIs(is_cheapest(scheme, 2, prices, (2,), amounts), True)
        self.assertIs(is_cheapest(scheme, 2, prices, (1, 0), amounts), True)
        self.assertIs(is_cheapest(scheme, 2, prices, (0, 2), amounts), False)

    def test_a_row_of_another_kind(self):
        for wrong in [
            (1, 1, 1), (0, 1, 0, 0, -1), (0, 0, 1, 0, 0, -1), (), (1,), (1, 0, 0, 1), (-1, 0, 0, 1),
            [1, 0, 0, -1], (1, 0, 0, -1, 0),
            (True, 0, 0, -1), (1, False, 0, -1), (1, 0, 0, -1, None), (1, 0, 2, -1), "1 0 0 -1", None, 8,
            (8, ROW), (ROW,),
        ]:
            self.assertIs(self.told(wrong, self.amounts()), False, repr(wrong))
        self.assertIs(is_cheapest(signed(), 7, FREE_PRICES, (1, 1, 1), potentials(signed(), 7, FREE_PRICES)), False)
        self.assertIs(is_cheapest(signed(), 7, FREE_PRICES, ROW, potentials(signed(), 7, FREE_PRICES)), True)

    def test_the_price_of_the_row(self):
        # With a 0 for nothing each row with zeros in front costs as much, but it is not plain.
        prices = {-1: 3, 0: 0, 1: 3}
        amounts = potentials(FREE, 7, prices)
        self.assertIs(is_cheapest(FREE, 7, prices, ROW, amounts), True)
        self.assertIs(is_cheapest(FREE, 7, prices, (0, 1, 0, 0, -1), amounts), False)
        self.assertIs(is_cheapest(FREE, 7, prices, (1, 0, -1, -1), amounts), False)

    def test_another_number(self):
        for number in (-7, 6, 8, 0, HUNDRED):
            self.assertIs(self.told(ROW, self.amounts(), number), False)

    def test_any_value_as_row(self):
        for wrong in any_values():
            self.assertIs(self.told(wrong, self.amounts()), False, repr(wrong))

    def test_any_value_as_amounts(self):
        for wrong in any_values():
            self.assertIs(self.told(ROW, wrong), False, repr(wrong))
            self.assertIs(is_cheapest(FREE, 0, FREE_PRICES, (), wrong), False, repr(wrong))
        self.assertIs(self.told(ROW, dict(self.amounts())), False)
        self.assertIs(self.told(ROW, [list(item) for item in self.amounts()]), False)
        self.assertIs(self.told(ROW, [(list(place), amount) for place, amount in self.amounts()]), False)

    def test_each_place_once(self):
        amounts = self.amounts()
        for at, item in enumerate(amounts):
            self.assertIs(self.told(ROW, amounts[:at] + amounts[at + 1:]), False)
            self.assertIs(self.told(ROW, amounts + [item]), False)
            self.assertIs(self.told(ROW, [item] + amounts), False)
            self.assertIs(self.told(ROW, amounts + [(item[0], item[1] + 1)]), False)
            self.assertIs(self.told(ROW, amounts[:at] + amounts[at + 1:] + [amounts[at - 1]]), False)
        self.assertIs(self.told(ROW, []), False)

    def test_no_other_places(self):
        amounts = self.amounts()
        known = reached(FREE, (7, None))
        for place in ((5, None), (6, 0), (7, 0), (7, 1), (100, -1), (4, 0), (3, None), (0, None)):
            self.assertNotIn(place, known)
            for amount in (0, 1, 8):
                self.assertIs(self.told(ROW, amounts + [(place, amount)]), False)
                self.assertIs(self.told(ROW, amounts[:-1] + [(place, amount)]), False)
        # A scheme in which all places that are reached from another one may be there as well.
        extra = [(place, 0) for place in reached(FREE, (100, None)) if place not in known]
        self.assertIs(self.told(ROW, amounts + extra), False)

    def test_amounts_that_are_none(self):
        amounts = self.amounts()
        for at, (place, amount) in enumerate(amounts):
            for wrong in (
                -1, None, True, False, "0", "", (amount,), [amount], {}, FREE, -HUNDRED,
                str(amount), (), (0, 0),
            ):
                self.assertIs(self.told(ROW, amounts[:at] + [(place, wrong)] + amounts[at + 1:]), False, repr(wrong))

    def test_items_that_are_none(self):
        amounts = self.amounts()
        for at, (place, amount) in enumerate(amounts):
            rest, right = place
            for wrong in (
                None, (), (place,), (place, amount, amount), [place, amount], (amount, place), place, (rest, amount),
                ((rest, right, 0), amount), ([rest, right], amount), ((str(rest), right), amount), (None, amount),
                ((rest, 2), amount), ((rest, "end"), amount), ((rest, True), amount), ((True, right), amount),
                FREE, "", 0,
                ((rest,), amount), ((None, right), amount), {place: amount}, ((rest, FREE), amount),
                ((FREE, right), amount),
            ):
                self.assertIs(self.told(ROW, amounts[:at] + [wrong] + amounts[at + 1:]), False, repr(wrong))
                self.assertIs(self.told(ROW, amounts + [wrong]), False, repr(wrong))

    def test_true_and_false_are_no_parts_of_items(self):
        scheme = plain_scheme(2)
        prices = {0: 0, 1: 1}
        amounts = potentials(scheme, 1, prices)
        self.assertEqual(sorted(amounts, key=repr), sorted([((1, None), 1), ((0, 1), 0), ((0, 0), 1)], key=repr))
        self.assertIs(is_cheapest(scheme, 1, prices, (1,), amounts), True)
        for at, ((rest, right), amount) in enumerate(amounts):
            for wrong in (
                ((bool(rest), right), amount), ((rest, None if right is None else bool(right)), amount),
                ((rest, right), bool(amount)),
            ):
                if repr(wrong) != repr(amounts[at]):
                    given = amounts[:at] + [wrong] + amounts[at + 1:]
                    self.assertIs(is_cheapest(scheme, 1, prices, (1,), given), False)

    def test_each_amount_counts(self):
        for number in (7, 5, -3, 12):
            amounts = potentials(FREE, number, FREE_PRICES)
            row = cheapest(FREE, number, FREE_PRICES)[1]
            for at, (place, amount) in enumerate(amounts):
                for changed in (amount + 1, amount - 1, 0, 1, amount + 1000, 10 ** 99):
                    given = amounts[:at] + [(place, changed)] + amounts[at + 1:]
                    expected = shows_cheapest(FREE, number, FREE_PRICES, row, given)
                    self.assertIs(is_cheapest(FREE, number, FREE_PRICES, row, given), expected, (place, changed))

    def test_great_amounts_where_no_row_ends(self):
        # No plain row is written on from (0, 0), so that its amount may be as great as anything.
        scheme = plain_scheme(2)
        prices = {0: 0, 1: 1}
        for amount, expected in ((1, True), (0, True), (2, True), (10 ** 99, True), (-1, False)):
            given = [((1, None), 1), ((0, 1), 0), ((0, 0), amount)]
            self.assertIs(is_cheapest(scheme, 1, prices, (1,), given), expected, amount)

    def test_the_ends_have_the_amount_0(self):
        scheme = plain_scheme(2)
        prices = {0: 5, 1: 1}
        for amounts, expected in [
            ([((1, None), 1), ((0, 1), 0), ((0, 0), 9)], True), ([((1, None), 1), ((0, 1), 1), ((0, 0), 9)], False),
            ([((1, None), 0), ((0, 1), 0), ((0, 0), 9)], False), ([((1, None), 2), ((0, 1), 0), ((0, 0), 9)], False),
            ([((1, None), 2), ((0, 1), 1), ((0, 0), 9)], False),
        ]:
            self.assertIs(is_cheapest(scheme, 1, prices, (1,), amounts), expected)
        # The first place is one of them if the number is 0; (0, 0) is not.
        for amounts, expected in [
            ([((0, None), 0), ((0, 0), 0)], True), ([((0, None), 0), ((0, 0), 7)], True),
            ([((0, None), 1), ((0, 0), 7)], False),
        ]:
            self.assertIs(is_cheapest(scheme, 0, prices, (), amounts), expected)

    def test_a_dearer_row_has_no_amounts(self):
        # The amount of the first place would have to be greater than its steps allow.
        amounts = self.amounts()
        dear = [(place, 9 if place == (7, None) else amount) for place, amount in amounts]
        self.assertIs(self.told((1, 1, 1), dear), False)
        self.assertIs(self.told(ROW, dear), False)
        self.assertIs(self.told((1, 1, 1), [(place, amount + 1) for place, amount in amounts]), False)
        low = [(place, 0) for place, _ in amounts]
        self.assertIs(self.told(ROW, low), False)

    def test_lists_of_many_kinds(self):
        chance = random.Random(21)
        found = {True: 0, False: 0}
        for scheme in edge_schemes() + mixed_schemes(80, 4, seed=22):
            for prices in some_prices(scheme):
                number = chance.randint(-9, 9)
                best = cheapest(scheme, number, prices)
                if best is None:
                    continue
                amounts = potentials(scheme, number, prices)
                for _ in range(chance.randint(0, 2)):
                    at = chance.randrange(len(amounts))
                    place, amount = amounts[at]
                    amounts[at] = (place, max(0, amount + chance.choice((-2, -1, 1, 2))))
                chance.shuffle(amounts)
                expected = shows_cheapest(scheme, number, prices, best[1], amounts)
                self.assertIs(is_cheapest(scheme, number, prices, best[1], amounts), expected)
                found[expected] += 1
        self.assertGreater(min(found.values()), 50)

    def test_great_lists(self):
        prices = some_prices(SIX)[4]
        amounts = potentials(SIX, HUNDRED, prices)
        row = cheapest(SIX, HUNDRED, prices)[1]
        self.assertGreater(len(amounts), 2000)
        self.assertIs(is_cheapest(SIX, HUNDRED, prices, row, tuple(amounts[::-1])), True)
        self.assertIs(is_cheapest(SIX, HUNDRED, prices, row, amounts[1:]), False)
        self.assertIs(is_cheapest(SIX, HUNDRED, prices, row, amounts[:-1]), False)
        place, amount = amounts[0]
        self.assertIs(is_cheapest(SIX, HUNDRED, prices, row, [(place, amount + 1)] + amounts[1:]), False)

    def test_surplus_digits(self):
        prices = {-6: 0, 7: 1}
        amounts = potentials(SURPLUS, 0, prices)
        self.assertIs(is_cheapest(SURPLUS, 0, prices, (), amounts), True)
        row = (-6, 7, 7, 7, -6, 7, 7, -6, -6, -6, 7, -6)
        self.assertEqual((SURPLUS.value_of(row), price(row, prices)), (0, 6))
        self.assertIs(is_cheapest(SURPLUS, 0, prices, row, amounts), False)
        self.assertIs(is_cheapest(SURPLUS, 0, {-6: 0, 7: 0}, row, potentials(SURPLUS, 0, {-6: 0, 7: 0})), True)

    def test_what_is_handed_in_is_not_changed(self):
        given = [((7, None), 8), [(4, -1), 5], {"a": [1]}]
        self.told(ROW, given)
        self.assertEqual(given, [((7, None), 8), [(4, -1), 5], {"a": [1]}])
