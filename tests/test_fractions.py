"""Endless rows with the value of a ratio, and why there are none [111], [112], [113]."""

import itertools
import random
from fractions import Fraction
from math import gcd

from oddfigures.errors import InvalidRatio, InvalidRow
from oddfigures.fractions import endless_count, endless_row, fraction_of, is_why_none, why_none
from oddfigures.schemes import Scheme, plain_scheme
from tests.checks import Checks, no_integers
from tests.reference import edge_schemes, every_pair, is_row, mixed_schemes, rows_up_to, value
from tests.values import GREAT, any_values, signed

PLAIN = plain_scheme(2)
FREE = Scheme(2, [-1, 0, 1])
GAPS = Scheme(3, [0, 2])
SOME = [(0, 1), (1, 1), (-1, 1), (1, 2), (1, 3), (-2, 3), (2, 5), (7, 12), (-1200, 60), (1200, 59), (37, 60), (5, 1),
    (-9, 4)]


def schemes():
    return edge_schemes() + mixed_schemes(60, 6, seed=20)


def far(scheme, bottom, rest):
    return (abs(scheme.base) - 1) * abs(rest) > bottom * max(abs(digit) for digit in scheme.digits)


def steps_from_point(scheme, bottom, point):
    """The points to which steps lead [113]."""
    rest, left = point
    return [
        (scheme.base * rest - bottom * digit, digit) for digit in sorted(scheme.digits)
        if left is None or (left, digit) not in scheme.bars
    ]


def points_of(scheme, top, bottom):
    """The points that are reached, and not far, each with those one step further; the first one is the first."""
    lowest = Fraction(top, bottom)
    found = {}
    queue = [(lowest.numerator, None)]
    for point in queue:
        if point in found or far(scheme, lowest.denominator, point[0]):
            continue
        found[point] = [
            other for other in steps_from_point(scheme, lowest.denominator, point)
            if not far(scheme, lowest.denominator, other[0])
        ]
        queue.extend(found[point])
    return found


def count_of(scheme, top, bottom):
    """How many endless rows there are [112]: how many of their beginnings there are, when these do not grow."""
    points = points_of(scheme, top, bottom)
    alive = set(points)
    for _ in range(len(points) + 1):
        alive = {point for point in alive if any(other in alive for other in points[point])}
    first = next(iter(points), None)
    ways = {first: 1} if first in alive else {}
    sums = []
    for _ in range(2 * len(points) + 2):
        further = {}
        for point, many in ways.items():
            for other in points[point]:
                if other in alive:
                    further[other] = further.get(other, 0) + many
        ways = further
        sums.append(sum(ways.values()))
    return None if sums[-1] > sums[len(points)] else sums[-1]


def shows_none(scheme, top, bottom, items):
    """Whether tuples of the right kind are a list as in [113]."""
    lowest = Fraction(top, bottom)
    ranks = dict(items)
    if len(ranks) < len(items):
        return False
    if (lowest.numerator, None) not in ranks and not far(scheme, lowest.denominator, lowest.numerator):
        return False
    for point, rank in items:
        for other in steps_from_point(scheme, lowest.denominator, point):
            if not far(scheme, lowest.denominator, other[0]) and (other not in ranks or ranks[other] >= rank):
                return False
    return True


class FractionOfTest(Checks):
    def test_values(self):
        for scheme in schemes():
            rows = [row for row in rows_up_to(scheme, 2) if len(scheme) < 4 or row[:1] != (0,)]
            for front, ring in itertools.islice(itertools.product(rows, rows), 0, 400, 7):
                if ring == () or not is_row(scheme, front + ring + ring):
                    continue
                found = fraction_of(scheme, front, ring)
                self.assertIs(found.__class__, tuple)
                self.check_integers(*found)
                base = Fraction(scheme.base)
                inner = Fraction(value(scheme.base, ring)) / (base ** len(ring) - 1)
                expected = (value(scheme.base, front) + inner) / base ** len(front)
                self.assertEqual(found, (expected.numerator, expected.denominator), (str(scheme), front, ring))

    def test_the_sum_of_the_digits(self):
        # The first digits of the endless row come near to the value.
        for scheme, front, ring in [
            (PLAIN, (), (0, 1)), (plain_scheme(-2), (1, 0), (1,)), (Scheme(3, [-7, 0, 1]), (-7,), (0, 1, 1)),
            (plain_scheme(-6), (5, 3), (4, 0)), (signed(), (1,), (0, -1)),
        ]:
            digits = front + ring * 40
            near = sum(Fraction(digits[k], scheme.base ** (k + 1)) for k in range(len(digits)))
            top, bottom = fraction_of(scheme, front, ring)
            self.assertLess(abs(near - Fraction(top, bottom)), Fraction(1, 10 ** 8))

    def test_some_values(self):
        for scheme, front, ring, expected in [
            (PLAIN, (), (0, 1), (1, 3)), (PLAIN, (), (0,), (0, 1)), (PLAIN, (), (1,), (1, 1)),
            (PLAIN, (1,), (0,), (1, 2)),
            (PLAIN, (0,), (1,), (1, 2)), (GAPS, (), (2,), (1, 1)), (plain_scheme(-2), (), (1,), (-1, 3)),
            (plain_scheme(-2), (), (1, 0), (-2, 3)), (Scheme(2, [-9]), (), (-9,), (-9, 1)),
            (Scheme(6, [5, 9]), (9,), (5,), (5, 3)),
            (plain_scheme(-2), (1,), (0,), (-1, 2)),
        ]:
            self.assertEqual(fraction_of(scheme, front, ring), expected)
            self.assertEqual(fraction_of(ring=ring, front=front, scheme=scheme), expected)

    def test_values_of_any_size(self):
        front, ring = (1, 0) * 200, (0, 1) * 200
        top, bottom = fraction_of(PLAIN, front, ring)
        self.assertEqual(Fraction(top, bottom), Fraction(value(2, front) + Fraction(1, 3), 2 ** 400))
        self.assertEqual(gcd(top, bottom), 1)

    def test_no_front(self):
        for scheme in (PLAIN, signed()):
            for wrong in any_values():
                if wrong not in scheme:
                    self.check_error(InvalidRow, "row", wrong, fraction_of, scheme, wrong, (0,))
                    self.check_error(InvalidRow, "row", wrong, fraction_of, scheme, wrong, None)

    def test_no_ring(self):
        for scheme in (PLAIN, signed()):
            for wrong in any_values() + [()]:
                if wrong not in scheme or wrong == ():
                    self.check_error(InvalidRow, "row", wrong, fraction_of, scheme, (0,), wrong)
                    self.check_error(InvalidRow, "row", wrong, fraction_of, scheme, (), wrong)

    def test_rings_that_do_not_fit(self):
        for front, ring in [((), (1,)), ((), (1, 0, 1)), ((1,), (1, 0)), ((0, 1), (-1, 0)), ((), (1, 0, -1))]:
            self.check_error(InvalidRow, "row", ring, fraction_of, signed(), front, ring)
        for front, ring in [((), (1, 0)), ((1,), (0,)), ((1, 0), (1, 0)), ((0, 1), (0, 0, -1))]:
            fraction_of(signed(), front, ring)
        for front in ((1, 1), (2,), (1, -1)):
            self.check_error(InvalidRow, "row", front, fraction_of, signed(), front, (1, 1))

    def test_no_scheme(self):
        self.check_no_scheme(fraction_of, (), (0,))

    def test_interface(self):
        self.check_interface("oddfigures.fractions", fraction_of, "(scheme, front, ring)")


class EndlessRowTest(Checks):
    def test_rows_counts_and_reasons(self):
        found = {0: 0, 1: 0, 2: 0, None: 0}
        for scheme in schemes():
            for top, bottom in SOME:
                many = count_of(scheme, top, bottom)
                given = endless_count(scheme, top, bottom)
                self.assertEqual(given, many, (str(scheme), top, bottom))
                if many is not None:
                    self.check_integers(given)
                found[many if many in (0, 1, None) else 2] += 1
                self.check_row_of(scheme, top, bottom, many)
                self.check_reason(scheme, top, bottom, many)
        self.assertGreater(min(found.values()), 20)

    def check_row_of(self, scheme, top, bottom, many):
        row = endless_row(scheme, top, bottom)
        self.assertIs(row is None, many == 0)
        if row is None:
            return
        self.assertIs(row.__class__, tuple)
        front, ring = row
        self.check_row(front)
        self.check_row(ring)
        self.assertGreater(len(ring), 0)
        self.assertTrue(is_row(scheme, front + ring + ring))
        self.assertEqual(Fraction(*fraction_of(scheme, front, ring)), Fraction(top, bottom))

    def check_reason(self, scheme, top, bottom, many):
        reason = why_none(scheme, top, bottom)
        self.assertIs(reason is None, many != 0)
        if reason is None:
            return
        self.assertIs(reason.__class__, list)
        for item in reason:
            self.assertIs(item.__class__, tuple)
            self.check_places([item[0]])
            self.check_integers(item[1])
        self.assertTrue(shows_none(scheme, top, bottom, reason))
        self.assertIs(is_why_none(scheme, top, bottom, reason), True)

    def test_all_ratios_of_some_schemes(self):
        for scheme in (PLAIN, plain_scheme(-2), GAPS, signed(), Scheme(3, [-1, 0, 1], bars=[(1, -1), (0, 0)])):
            for bottom in (1, 2, 3, 7, 60):
                for top in range(-2 * bottom, 2 * bottom + 1, 1 + bottom // 6):
                    self.assertEqual(endless_count(scheme, top, bottom), count_of(scheme, top, bottom))
                    self.check_row_of(scheme, top, bottom, count_of(scheme, top, bottom))

    def test_some_counts(self):
        for scheme, top, bottom, many in [
            (PLAIN, 0, 1, 1), (PLAIN, 1, 1, 1), (PLAIN, 1, 2, 2), (PLAIN, 1, 3, 1), (PLAIN, 3, 4, 2), (PLAIN, -1, 2, 0),
            (PLAIN, 5, 4, 0), (FREE, 0, 1, None), (FREE, 1, 1, 1), (FREE, 1, 3, None), (Scheme(2, [0]), 0, 1, 1),
            (Scheme(2, [0]), 1, 60, 0), (Scheme(3, [0, 2]), 1, 2, 0), (GAPS, 1, 1, 1), (GAPS, 1, 3, 1), (GAPS, 2, 3, 1),
            (Scheme(2, [1], bars=[(1, 1)]), 1, 2, 0), (Scheme(2, [0, 1], bars=every_pair((0, 1))), 0, 1, 0),
            (plain_scheme(-2), -1, 3, 1), (plain_scheme(-2), 0, 1, 1), (plain_scheme(6), 1, 6, 2),
            (plain_scheme(6), 1, 7, 1),
        ]:
            self.assertEqual(endless_count(scheme, top, bottom), many, (str(scheme), top, bottom))
            self.assertEqual(endless_count(bottom=bottom, top=top, scheme=scheme), many)
        # Both stand for the only row.
        self.assertIn(endless_row(PLAIN, 1, 3), [((0,), (1, 0)), ((), (0, 1))])

    def test_ratios_that_are_not_in_lowest_terms(self):
        for scheme in (PLAIN, GAPS, signed(), FREE, plain_scheme(-2), Scheme(2, [0])):
            for top, bottom, times in [(1, 3, 20), (1, 2, 30), (-1, 4, 15), (0, 1, 60), (20, 1, 60), (-20, 1, 60),
                (3, 10, 6)]:
                for function in (endless_row, endless_count, why_none):
                    self.assertEqual(function(scheme, top * times, bottom * times), function(scheme, top, bottom))
                reason = why_none(scheme, top, bottom)
                if reason is not None:
                    self.assertIs(is_why_none(scheme, top * times, bottom * times, reason), True)

    def test_bounds(self):
        for top, bottom in [(-1200, 1), (1200, 1), (-1200, 60), (1200, 60), (0, 60), (1, 60), (0, 1), (1199, 59)]:
            for scheme in (PLAIN, Scheme(2, [-9, -8, -3, 0, 7, 9])):
                self.assertEqual(endless_count(scheme, top, bottom), count_of(scheme, top, bottom))
        for top, bottom in [
            (1201, 1), (-1201, 60), (0, 0), (0, -1), (1, 61), (1, -60), (GREAT, 1), (1, GREAT), (True, 2), (1, True),
            (1, None), (None, 2), ("1", 2), (1, "2"), ((1,), 2), (1, [2]), (False, 1), (0, False),
        ]:
            self.check_no_ratio(top, bottom)

    def check_no_ratio(self, top, bottom):
        for function, others in [(endless_row, ()), (endless_count, ()), (why_none, ()), (is_why_none, ([],)),
            (is_why_none, (None,))]:
            with self.assertRaises(InvalidRatio, msg=repr((top, bottom))) as caught:
                function(PLAIN, top, bottom, *others)
            self.assertIs(caught.exception.top, top)
            self.assertIs(caught.exception.bottom, bottom)

    def test_no_ratio(self):
        for wrong in no_integers():
            self.check_no_ratio(wrong, 2)
            self.check_no_ratio(1, wrong)
            self.check_no_ratio(wrong, wrong)

    def test_no_scheme(self):
        for function in (endless_row, endless_count, why_none):
            self.check_no_scheme(function, 1, 2)
            self.check_no_scheme(function, 1, 0)
        self.check_no_scheme(is_why_none, 1, 2, [])
        self.check_no_scheme(is_why_none, 1, 0, [])

    def test_interface(self):
        for function in (endless_row, endless_count, why_none):
            self.check_interface("oddfigures.fractions", function, "(scheme, top, bottom)")
        self.check_interface("oddfigures.fractions", is_why_none, "(scheme, top, bottom, value)")

    def test_six_digits_and_the_bottom_60(self):
        chance = random.Random(22)
        for base in (2, -2, 3, -3, 6):
            for _ in range(4):
                digits = chance.sample(range(-9, 10), 6)
                scheme = Scheme(base, digits, bars=[pair for pair in every_pair(digits) if chance.random() < 0.4])
                for top in (1, 7, -37, 301, 1199):
                    row = endless_row(scheme, top, 60)
                    many = endless_count(scheme, top, 60)
                    self.assertIs(row is None, many == 0)
                    if row is None:
                        self.assertIs(is_why_none(scheme, top, 60, why_none(scheme, top, 60)), True)
                    else:
                        self.assertEqual(Fraction(*fraction_of(scheme, *row)), Fraction(top, 60))


class IsWhyNoneTest(Checks):
    SMALL = [((1, None), 1), ((-1, 2), 0)]

    def test_the_smallest_one(self):
        self.assertTrue(shows_none(GAPS, 1, 2, self.SMALL))
        for given in (self.SMALL, self.SMALL[::-1], tuple(self.SMALL)):
            self.assertIs(is_why_none(GAPS, 1, 2, given), True)
        self.assertIs(is_why_none(value=self.SMALL, bottom=2, top=1, scheme=GAPS), True)
        self.assertIs(is_why_none(GAPS, 30, 60, self.SMALL), True)
        self.assertIs(is_why_none(GAPS, 1, 4, self.SMALL), False)

    def test_a_first_point_that_is_far(self):
        for top, bottom in [(5, 4), (1200, 1), (-1200, 7)]:
            self.assertIs(is_why_none(PLAIN, top, bottom, why_none(PLAIN, top, bottom)), True)
        self.assertIs(is_why_none(PLAIN, 5, 4, []), True)
        self.assertIs(is_why_none(PLAIN, 5, 4, ()), True)
        self.assertIs(is_why_none(PLAIN, 1, 1, []), False)
        self.assertIs(is_why_none(GAPS, 1, 2, []), False)
        self.assertIs(is_why_none(GAPS, 5, 4, [((5, None), 0)]), True)
        # 1 is not far: what digits can give at most is 1.
        self.assertIs(is_why_none(PLAIN, 1, 1, [((1, None), 0)]), False)

    def test_ranks(self):
        for first, second, expected in [
            (1, 0, True), (GREAT, -GREAT, True), (-3, -4, True), (0, 0, False), (0, 1, False), (True, 0, False),
            (1, False, False),
            (None, 0, False), (1, None, False), ("1", "0", False), ((1,), (0,), False),
        ]:
            given = [((1, None), first), ((-1, 2), second)]
            self.assertIs(is_why_none(GAPS, 1, 2, given), expected, (first, second))

    def test_none_may_be_missing_or_doubled(self):
        for scheme, top, bottom in self.without_rows():
            reason = why_none(scheme, top, bottom)
            for at, item in enumerate(reason):
                self.assertIs(is_why_none(scheme, top, bottom, reason[:at] + reason[at + 1:]), False)
                self.assertIs(is_why_none(scheme, top, bottom, reason + [item]), False)
                self.assertIs(is_why_none(scheme, top, bottom, reason + [(item[0], item[1] + 9)]), False)

    def without_rows(self):
        """Schemes and ratios that are not far, and have no endless row."""
        found = []
        for scheme in schemes():
            for top, bottom in SOME:
                if why_none(scheme, top, bottom) and len(found) < 60:
                    found.append((scheme, top, bottom))
        return found

    def test_points_to_which_no_steps_lead(self):
        for extra, expected in [
            ((5, None), True), ((5, 2), True), ((-5, 0), True), ((GREAT, 0), True), ((-1, None), True), ((0, 0), False),
            ((1, 0), False), ((2, 2), False), ((5, 1), False), ((5, "end"), False), ((5, True), False),
            ((True, None), False),
            ((5,), False), ((5, 0, 0), False), ([5, 0], False), ((None, 0), False), (5, False), (None, False),
            ((5, []), False),
        ]:
            for given in (self.SMALL + [(extra, 0)], [(extra, 0)] + self.SMALL):
                self.assertIs(is_why_none(GAPS, 1, 2, given), expected, extra)
                if expected:
                    self.assertTrue(shows_none(GAPS, 1, 2, given))
        # It leads to (-1, 2), which has the rank 0, and to a far one.
        self.assertIs(is_why_none(GAPS, 1, 2, self.SMALL + [((1, 0), 1)]), True)

    def test_changed_items(self):
        chance = random.Random(23)
        found = {True: 0, False: 0}
        for scheme, top, bottom in self.without_rows():
            reason = why_none(scheme, top, bottom)
            for _ in range(20):
                given = list(reason)
                at = chance.randrange(len(given))
                (rest, left), rank = given[at]
                what = chance.randrange(4)
                if what == 0:
                    rank = rank + chance.choice((-2, -1, 1, 2))
                elif what == 1:
                    rest = rest + chance.choice((-3, -1, 1, 2, 50))
                elif what == 2:
                    left = chance.choice([None, *scheme.digits])
                given[at] = ((rest, left), rank)
                if chance.random() < 0.4:
                    given = reason + [given[at]]
                chance.shuffle(given)
                expected = shows_none(scheme, top, bottom, given)
                self.assertIs(is_why_none(scheme, top, bottom, given), expected, (str(scheme), top, bottom, given))
                found[expected] += 1
        self.assertGreater(min(found.values()), 100)

    def test_one_thing_of_another_kind(self):
        point, rank = self.SMALL[0]
        for other in [
            None, True, 0, "", [], (), {}, GAPS, (point,), [point, rank], (point, rank, 0), (list(point), rank),
            (point, [rank]),
            (None, rank), (1, rank), ({}, rank), (point, GAPS),
        ]:
            self.assertIs(is_why_none(GAPS, 1, 2, [other, self.SMALL[1]]), False, repr(other))
            self.assertIs(is_why_none(GAPS, 1, 2, self.SMALL + [other]), False, repr(other))

    def test_any_value(self):
        for wrong in any_values():
            self.assertIs(is_why_none(GAPS, 1, 2, wrong), False, repr(wrong))
            self.assertIs(is_why_none(PLAIN, 1, 2, wrong), False, repr(wrong))
            self.assertIs(is_why_none(PLAIN, 5, 4, wrong), wrong in ([], ()), repr(wrong))

    def test_no_list_where_there_is_a_row(self):
        for scheme, top, bottom in [(PLAIN, 1, 2), (PLAIN, 1, 3), (FREE, 0, 1), (signed(), 1, 60)]:
            points = list(points_of(scheme, top, bottom))
            self.assertIs(is_why_none(scheme, top, bottom, [(point, -at) for at, point in enumerate(points)]), False)

    def test_what_is_returned_may_be_changed_and_what_is_handed_in_is_not(self):
        reason = why_none(GAPS, 1, 2)
        again = list(reason)
        reason.clear()
        self.assertEqual(why_none(GAPS, 1, 2), again)
        is_why_none(GAPS, 1, 2, again)
        self.assertEqual(again, why_none(GAPS, 1, 2))
