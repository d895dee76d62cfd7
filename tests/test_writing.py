"""Which numbers are written, and by which row; closed lists [3], [4], [12], [32], [33]."""

import random

from oddfigures.errors import UnknownDigit
from oddfigures.places import closed_list, is_closed_list, is_written, writing
from oddfigures.schemes import Scheme, plain_scheme
from tests.checks import Checks
from tests.reference import (
    HUNDRED, SURPLUS, depth_for, edge_schemes, is_open, is_row, mixed_schemes, reached, rows_up_to, steps_from, value,
)
from tests.values import any_values, signed

ODD = Scheme(3, [0, 1, 5])


def may_stand_left(scheme, row, right):
    return row == () or right is None or (row[-1], right) not in scheme.bars


def shortest_rows(scheme, length, right):
    """The row that writing returns for each number with a row of at most so many digits."""
    found = {}
    for row in rows_up_to(scheme, length):
        if may_stand_left(scheme, row, right):
            found.setdefault(value(scheme.base, row), row)
    return found


class WrittenTest(Checks):
    def test_is_written_as_the_places_tell(self):
        for scheme in edge_schemes() + mixed_schemes(60, 5):
            for number in range(-20, 21):
                for right in (None, *scheme.digits):
                    expected = is_open(scheme, (number, right))
                    self.assertIs(is_written(scheme, number, right), expected, (str(scheme), number, right))

    def test_the_shortest_row_and_the_first_of_several(self):
        for scheme in edge_schemes() + mixed_schemes(120, 6):
            for right in (None, scheme.digits[0], scheme.digits[-1]):
                for number, row in shortest_rows(scheme, depth_for(scheme, 250), right).items():
                    found = writing(scheme, number, right)
                    self.check_row(found)
                    self.assertEqual(found, row, (str(scheme), number, right))

    def test_a_row_just_where_the_number_is_written(self):
        for scheme in edge_schemes() + mixed_schemes(60, 5, seed=2):
            for number in range(-30, 31):
                for right in (None, *scheme.digits):
                    row = writing(scheme, number, right)
                    self.assertIs(row is not None, is_written(scheme, number, right))
                    if row is not None:
                        self.assertTrue(is_row(scheme, row) and may_stand_left(scheme, row, right))
                        self.assertEqual(value(scheme.base, row), number)

    def test_the_number_0_is_always_written_by_the_empty_row(self):
        for scheme in edge_schemes():
            for right in (None, *scheme.digits):
                self.assertIs(is_written(scheme, 0, right), True)
                self.assertEqual(writing(scheme, 0, right), ())
                self.assertIsNone(closed_list(scheme, 0, right))

    def test_some_rows(self):
        for scheme, number, right, row in [
            (signed(), 7, None, (1, 0, 0, -1)), (signed(), 7, 1, None), (signed(), 7, 0, (1, 0, 0, -1)),
            (Scheme(2, [-1, 0, 1]), 3, None, (1, 1)), (Scheme(2, [-1, 0, 1]), 7, None, (1, 1, 1)),
            (plain_scheme(-2), -1, None, (1, 1)), (plain_scheme(-2), 2, None, (1, 1, 0)),
            (plain_scheme(2), -1, None, None),
            (Scheme(2, [-2, -1]), -4, None, (-1, -2)), (Scheme(2, [1, 2]), 4, None, (1, 2)),
            (Scheme(2, [0, 2]), 1, None, None),
            (Scheme(2, [0, 1, 2]), 4, None, (1, 2)), (Scheme(2, [0, 1, 2]), 2, None, (2,)),
            (Scheme(2, [-2, 0, 1, 2, 4]), 2, None, (2,)), (Scheme(2, [-2, 0, 1, 2, 4]), 6, None, (1, 4)),
            (Scheme(2, [0, 1, 2]), 2, 2, (2,)), (Scheme(2, [0, 1, 2], bars=[(2, 2)]), 2, 2, (1, 0)),
        ]:
            self.assertEqual(writing(scheme, number, right), row)
            self.assertIs(is_written(scheme, number, right), row is not None)

    def test_bars_leave_numbers_out(self):
        scheme = Scheme(2, [0, 1], bars=[(1, 1)])
        self.assertEqual([number for number in range(12) if is_written(scheme, number)], [0, 1, 2, 4, 5, 8, 9, 10])

    def test_numbers_of_a_hundred_figures(self):
        for scheme in edge_schemes():
            for number in (HUNDRED, -HUNDRED, HUNDRED + 1, 10 ** 100 - 1, 1 - 10 ** 100):
                row = writing(scheme, number)
                self.assertIs(is_written(scheme, number), row is not None)
                if row is None:
                    self.check_closed(scheme, number, None, closed_list(scheme, number))
                else:
                    self.assertEqual(value(scheme.base, row), number)
                    self.assertTrue(is_row(scheme, row))
                    self.assertIsNone(closed_list(scheme, number))

    def test_plain_rows_of_a_great_number(self):
        self.assertEqual(writing(plain_scheme(2), HUNDRED), tuple(int(digit) for digit in f"{HUNDRED:b}"))
        self.assertEqual(writing(-plain_scheme(2), -HUNDRED), tuple(-int(digit) for digit in f"{HUNDRED:b}"))

    def check_closed(self, scheme, number, right, found):
        self.check_places(found)
        listed = set(found)
        self.assertIn((number, right), listed)
        for place in found:
            self.assertNotEqual(place[0], 0)
            self.assertIn(place[1], (None, *scheme.digits))
            self.assertTrue(listed.issuperset(steps_from(scheme, place)))
        self.assertIs(is_closed_list(scheme, number, found, right), True)

    def test_either_a_row_or_a_closed_list(self):
        for scheme in edge_schemes() + mixed_schemes(60, 6, seed=3):
            for number in [*range(-12, 13), 10 ** 20, -10 ** 20]:
                for right in (None, *scheme.digits):
                    found = closed_list(scheme, number, right)
                    self.assertIs(found is None, writing(scheme, number, right) is not None)
                    if found is not None:
                        self.check_closed(scheme, number, right, found)

    def test_arguments_by_name(self):
        self.assertIs(is_written(right=1, number=7, scheme=signed()), False)
        self.assertEqual(writing(right=0, number=7, scheme=signed()), (1, 0, 0, -1))
        found = closed_list(right=1, number=7, scheme=signed())
        self.assertEqual(found, [(7, 1)])
        self.assertIs(is_closed_list(right=1, value=found, number=7, scheme=signed()), True)
        self.assertIs(is_closed_list(signed(), 7, found), False)


class ClosedListTest(Checks):
    def test_the_documents_lists(self):
        self.assertIs(is_closed_list(ODD, -1, [(-1, None), (-2, 5), (-1, 1)]), True)
        self.assertIs(is_closed_list(ODD, -1, [(-1, None), (-2, 5)]), False)

    def test_another_order_and_tuples_and_repetitions(self):
        items = [(-1, None), (-2, 5), (-1, 1)]
        for given in (items[::-1], tuple(items), items + items, items[2:] + items, tuple(items[1:] + items[:1])):
            self.assertIs(is_closed_list(ODD, -1, given), True)

    def test_places_that_are_not_reached(self):
        items = [(-1, None), (-2, 5), (-1, 1)]
        self.assertIs(is_closed_list(ODD, -1, items + reached(ODD, (-7, 0))), True)
        self.assertIs(is_closed_list(ODD, -1, items + [(-7, 0)]), False)
        self.assertIs(is_closed_list(ODD, -1, items + [(-2, None), (-1, 5)]), True)
        barred = ODD.barred([(0, 5), (1, 5), (5, 5)])
        self.assertIs(is_closed_list(barred, -1, [(-1, None), (-2, 5)]), True)
        self.assertIs(is_closed_list(barred, -1, [(-1, None), (-2, 5), (HUNDRED, 5)]), True)

    def test_the_place_itself_must_be_there(self):
        self.assertIs(is_closed_list(ODD, -1, [(-2, 5), (-1, 1)]), False)
        self.assertIs(is_closed_list(ODD, -2, [(-2, 5), (-1, 1)]), False)
        self.assertIs(is_closed_list(ODD, -2, [(-2, 5), (-1, 1)], 5), True)
        self.assertIs(is_closed_list(ODD, -2, [(-2, 5), (-1, 1)], 1), False)
        self.assertIs(is_closed_list(ODD, -1, []), False)
        self.assertIs(is_closed_list(ODD, -1, ()), False)

    def test_no_rest_may_be_0(self):
        items = [(-1, None), (-2, 5), (-1, 1)]
        zeros = reached(ODD, (0, None))
        self.assertIs(is_closed_list(ODD, -1, items + zeros), False)
        self.assertIs(is_closed_list(ODD, 0, zeros), False)
        for scheme in edge_schemes():
            for number in (0, 1, -1, 2, -5):
                if is_open(scheme, (number, None)):
                    self.assertIs(is_closed_list(scheme, number, reached(scheme, (number, None))), False)
        barred = Scheme(2, [1], bars=[(1, 1)])
        self.assertIs(is_closed_list(barred, 5, [(5, 1), (0, 1)], 1), False)
        self.assertIs(is_closed_list(barred, 5, [(5, 1), (2, 1)], 1), True)

    def test_one_thing_otherwise(self):
        items = [(-1, None), (-2, 5), (-1, 1)]
        others = [
            None, True, 0, "", "-1", [], (), {}, [-1, 1], (-1,), (-1, 1, 1), (-1, 2), (-1, True), (-1, "1"), (None, 1),
            (True, 1), ("-1", 1), (-1, -1), ((-1, 1),), ODD, {"a": 1}, (-1, ODD), ((), ()), (1, 1), (-1, 5),
        ]
        for at in range(3):
            self.assertIs(is_closed_list(ODD, -1, items[:at] + items[at + 1:]), False)
            for other in others:
                given = items[:at] + [other] + items[at + 1:]
                self.assertIs(is_closed_list(ODD, -1, given), False, repr(given))
        for other in others[:-2]:
            self.assertIs(is_closed_list(ODD, -1, items + [other]), False, repr(other))
            self.assertIs(is_closed_list(ODD, -1, [other] + items), False, repr(other))

    def test_true_and_false_are_no_digits_and_no_rests(self):
        barred = Scheme(2, [0, 1], bars=[(0, 0), (0, 1), (1, 0), (1, 1)])
        self.assertIs(is_closed_list(barred, 1, [(1, 1)], 1), True)
        self.assertIs(is_closed_list(barred, 1, [(1, 1), (1, 0)], 1), True)
        for wrong in ((True, 1), (1, True), (1, False), (True, None)):
            self.assertIs(is_closed_list(barred, 1, [(1, 1), wrong], 1), False)

    def test_any_value(self):
        for wrong in any_values():
            self.assertIs(is_closed_list(ODD, -1, wrong), False, repr(wrong))
            self.assertIs(is_closed_list(ODD, 1, wrong, 5), False, repr(wrong))

    def test_lists_of_many_kinds(self):
        chance = random.Random(4)
        for scheme in edge_schemes() + mixed_schemes(60, 4, seed=5):
            for _ in range(8):
                starts = [
                    (chance.randint(-9, 9), chance.choice((None, *scheme.digits))) for _ in range(chance.randint(1, 3))
                ]
                items = reached(scheme, *starts)
                if chance.random() < 0.3:
                    items.pop(chance.randrange(len(items)))
                chance.shuffle(items)
                number, right = starts[0]
                known = set(items)
                expected = (number, right) in known and all(
                    place[0] != 0 and known.issuperset(steps_from(scheme, place)) for place in items
                )
                self.assertIs(is_closed_list(scheme, number, items, right), expected)

    def test_great_numbers_in_the_list(self):
        scheme = Scheme(2, [0, 2])
        number = -2 * HUNDRED
        found = closed_list(scheme, number)
        self.assertIs(is_closed_list(scheme, number, found), True)
        self.assertIs(is_closed_list(scheme, number, tuple(found[::-1])), True)
        for item in found:
            self.assertIs(is_closed_list(scheme, number, [other for other in found if other != item]), False)

    def test_what_is_returned_may_be_changed(self):
        for number in (-1, -HUNDRED):
            found = closed_list(ODD, number)
            again = list(found)
            found.clear()
            found.append((0, None))
            self.assertEqual(closed_list(ODD, number), again)

    def test_what_is_handed_in_is_not_changed(self):
        items = [(-1, 1), (-1, None), (-2, 5), (-1, 1)]
        is_closed_list(ODD, -1, items)
        self.assertEqual(items, [(-1, 1), (-1, None), (-2, 5), (-1, 1)])
        mixed = [(-1, 1), [(-1, None)], {"a": [1]}]
        is_closed_list(ODD, -1, mixed)
        self.assertEqual(mixed, [(-1, 1), [(-1, None)], {"a": [1]}])


class ErrorsTest(Checks):
    def functions(self):
        """Each function in a form that takes scheme, number and right."""
        return [
            is_written, writing, closed_list,
            lambda scheme, number, right=None: is_closed_list(scheme, number, [(-1, None)], right),
            lambda scheme, number, right=None: is_closed_list(scheme, number, None, right),
        ]

    def test_no_scheme(self):
        for function in self.functions():
            self.check_no_scheme(function, 7)
            self.check_no_scheme(function, 7, 1)

    def test_no_integer(self):
        for function in self.functions():
            self.check_no_number(function, signed())
            self.check_no_number(function, signed(), 1)

    def test_no_digit(self):
        for function in self.functions():
            for wrong in any_values():
                if wrong is None or wrong.__class__ is int and wrong in (0, 1, 5):
                    continue
                for number in (0, 1, -1):
                    self.check_error(UnknownDigit, "digit", wrong, function, ODD, number, wrong)


class SurplusTest(Checks):
    def test_twelve_digits_may_give_0(self):
        self.assertEqual(writing(SURPLUS, 0), ())
        for right in (-6, 7):
            self.assertEqual(writing(SURPLUS, 0, right), ())
        self.assertEqual(
            [row for row in rows_up_to(SURPLUS, 12) if value(2, row) == 0 and row != ()],
            [tuple(row) for row in [self.zero_row()]],
        )

    def zero_row(self):
        digits = []
        rest = 0
        while not digits or rest != 0:
            (rest, digit), = steps_from(SURPLUS, (rest, None))
            digits.insert(0, digit)
        self.assertEqual(len(digits), 12)
        return digits

    def test_all_small_numbers(self):
        for number in range(-40, 41):
            row = writing(SURPLUS, number)
            if row is None:
                self.assertIs(is_closed_list(SURPLUS, number, closed_list(SURPLUS, number)), True)
            else:
                self.assertEqual(value(2, row), number)
