"""Papers that show that no number has two plain rows [52], [53]."""

import random

from oddfigures.oneway import difference_paper, is_difference_paper, one_way
from oddfigures.schemes import Scheme, plain_scheme
from tests.checks import Checks
from tests.reference import (
    HUNDRED, SURPLUS, differences_from, differences_reached, edge_schemes, every_pair, mixed_schemes, shows_one_way,
)
from tests.values import any_values, signed

FIRST = (False, 0, None, None)
PLAIN = plain_scheme(2)
TWO = [FIRST, (False, 0, 0, 0), (False, 0, 1, 1)]
# Six digits, and as many differences as there are.
SIX = [
    Scheme(6, [-3, -2, -1, 0, 1, 2]), Scheme(-6, [0, 1, 2, 3, 4, 5]), Scheme(6, [1, 2, 3, 4, 5, 6]),
    Scheme(2, [0, 1, 3, 5, 7, 9], bars=[pair for pair in every_pair((0, 1, 3, 5, 7, 9)) if pair[1] != 0]),
    Scheme(2, [-9, -8, -3, 0, 7, 9], bars=every_pair((-9, -8, -3, 0, 7, 9))),
]


class PaperTest(Checks):
    def check_paper(self, scheme, paper):
        self.assertIs(paper.__class__, list)
        for item in paper:
            self.assertIs(item.__class__, tuple)
            unlike, left, one, other = item
            self.assertIs(unlike.__class__, bool)
            self.check_integers(left, *[digit for digit in (one, other) if digit is not None])
            self.assertIn(one, (None, *scheme.digits))
            self.assertIn(other, (None, *scheme.digits))
        self.assertTrue(shows_one_way(scheme, paper))
        self.assertIs(is_difference_paper(scheme, paper), True)

    def test_a_paper_just_where_there_are_no_two_rows(self):
        for scheme in edge_schemes() + mixed_schemes(200, 6, seed=6) + SIX:
            paper = difference_paper(scheme)
            self.assertIs(paper is not None, one_way(scheme))
            if paper is not None:
                self.check_paper(scheme, paper)

    def test_six_digits(self):
        many = 0
        for scheme in mixed_schemes(500, 6, seed=8):
            if len(scheme) == 6 and scheme.bars and one_way(scheme):
                paper = difference_paper(scheme)
                self.check_paper(scheme, paper)
                many = many + 1
        self.assertGreater(many, 0)

    def test_no_list_shows_it_where_there_are_two_rows(self):
        for scheme in edge_schemes():
            if not one_way(scheme):
                self.assertIsNone(difference_paper(scheme))
                self.assertIs(is_difference_paper(scheme, differences_reached(scheme, FIRST)), False)

    def test_the_documents_paper(self):
        self.check_paper(signed(), difference_paper(signed()))
        self.assertIs(is_difference_paper(value=difference_paper(scheme=signed()), scheme=signed()), True)
        self.assertIsNone(difference_paper(Scheme(2, [-1, 0, 1])))

    def test_what_is_returned_may_be_changed(self):
        paper = difference_paper(signed())
        again = list(paper)
        paper.clear()
        paper.append(None)
        self.assertEqual(difference_paper(signed()), again)


class IsPaperTest(Checks):
    def test_the_smallest_one(self):
        self.assertIs(is_difference_paper(PLAIN, TWO), True)
        self.assertEqual(sorted(difference_paper(PLAIN), key=repr), sorted(TWO, key=repr))

    def test_another_order_and_tuples(self):
        for scheme in (PLAIN, signed(), Scheme(3, [-7, 0, 1]), Scheme(2, [1, 2])):
            paper = difference_paper(scheme)
            for given in (paper[::-1], tuple(paper), tuple(paper[::-1]), paper[1:] + paper[:1]):
                self.assertIs(is_difference_paper(scheme, given), True)

    def test_no_repetition(self):
        for at in range(3):
            self.assertIs(is_difference_paper(PLAIN, TWO + [TWO[at]]), False)
            self.assertIs(is_difference_paper(PLAIN, [TWO[at]] + TWO), False)

    def test_none_may_be_missing(self):
        for scheme in (PLAIN, signed(), Scheme(3, [-7, 0, 1]), Scheme(2, [1, 2])):
            paper = difference_paper(scheme)
            for item in paper:
                self.assertIs(is_difference_paper(scheme, [other for other in paper if other != item]), False)

    def test_the_first_difference_must_be_there(self):
        self.assertIs(is_difference_paper(PLAIN, TWO[1:]), False)
        self.assertIs(is_difference_paper(PLAIN, []), False)
        self.assertIs(is_difference_paper(PLAIN, ()), False)
        dead = Scheme(2, [0, 1], bars=every_pair((0, 1)))
        self.assertIs(is_difference_paper(dead, [(False, 0, 0, 0)]), False)

    def test_differences_to_which_no_steps_lead(self):
        scheme = Scheme(3, [0, 1])
        paper = difference_paper(scheme)
        self.assertIs(is_difference_paper(scheme, paper + [(True, 5, 0, 0)]), False)
        for extra in ((False, 0, 0, None), (True, 0, 0, 0), (True, 0, 0, 1), (False, 2, None, None), (True, -2, 1, 0)):
            given = paper + [item for item in differences_reached(scheme, extra) if item not in paper]
            self.assertIs(is_difference_paper(scheme, given), shows_one_way(scheme, given), extra)
        dead = Scheme(2, [0, 1], bars=every_pair((0, 1)))
        for extra, expected in [
            ((True, 5, 0, 0), True), ((True, HUNDRED, 1, 1), True), ((True, 0, 0, 1), True), ((True, 0, 1, 0), True),
            ((True, 0, 1, 1), False), ((False, 0, 1, 1), True), ((True, 1, 0, 1), True), ((False, -1, 1, 1), True),
            ((True, 1, None, 0), True), ((True, 1, None, 1), False), ((True, -1, 1, None), False),
            ((False, 1, None, 1), False), ((False, -1, 0, None), True), ((False, -1, 1, None), False),
            ((True, 2, None, 1), True), ((True, HUNDRED, None, 1), True), ((True, 0, 0, None), True),
        ]:
            given = difference_paper(dead) + [item for item in differences_reached(dead, extra) if item not in TWO]
            self.assertIs(shows_one_way(dead, given), expected, extra)
            self.assertIs(is_difference_paper(dead, given), expected, extra)

    def extended(self, scheme, *extras):
        paper = difference_paper(scheme)
        return paper + [item for item in differences_reached(scheme, *extras) if item not in paper]

    def test_two_rows_must_not_end_together(self):
        self.assertIs(is_difference_paper(PLAIN, self.extended(PLAIN, (True, 0, None, None))), False)
        self.assertIs(is_difference_paper(PLAIN, self.extended(PLAIN, (True, 0, 1, 1))), False)
        self.assertIs(is_difference_paper(PLAIN, self.extended(PLAIN, (False, 0, 1, 0))), True)

    def test_none_is_not_0(self):
        dead = Scheme(2, [0, 1], bars=every_pair((0, 1)))
        paper = difference_paper(dead)
        for item, expected in [
            ((True, 0, 0, 1), True), ((True, 0, 0, 0), True), ((True, 0, 1, 0), True), ((True, 0, 1, 1), False),
        ]:
            self.assertIs(is_difference_paper(dead, paper + [item]), expected)
        # Nothing but 0 may be read here, so that no row can go on and become a plain one.
        zero = Scheme(2, [0])
        for item, expected in [
            ((True, 0, None, 0), True), ((True, 0, 0, None), True), ((True, 0, None, None), False),
        ]:
            self.assertIs(is_difference_paper(zero, self.extended(zero, item)), expected)

    def test_one_row_must_not_go_on_alone(self):
        for item in ((True, 1, None, None), (False, 1, None, None), (True, -1, None, None), (False, -1, None, None)):
            self.assertIs(is_difference_paper(PLAIN, self.extended(PLAIN, item)), False, item)
        dead = Scheme(2, [0, 1], bars=[(0, 1), (1, 1), (0, 0)])
        paper = difference_paper(dead)
        # 1 stands left of 0 alone, and nothing left of 1.
        for item, expected in [
            ((True, 1, 0, 1), False), ((False, 1, 0, 1), False), ((True, 1, 1, 1), True), ((True, -1, 1, 0), False),
            ((False, -1, 1, 0), False), ((True, -1, 1, 1), True), ((True, 1, 1, 0), True), ((True, -1, 0, 1), True),
            ((True, 2, None, 1), False), ((True, -2, 1, None), False), ((True, 4, None, 1), True),
            ((True, -2, None, 1), True), ((True, 2, 1, None), True), ((True, 3, 0, 1), True),
        ]:
            given = paper + [item]
            self.assertEqual(differences_from(dead, item), [])
            self.assertIs(shows_one_way(dead, given), expected, item)
            self.assertIs(is_difference_paper(dead, given), expected, item)

    def test_one_thing_otherwise(self):
        others = [
            None, True, False, 0, 1, "", "end", [], (), {}, list(FIRST), (False, 0, None), (False, 0, None, None, None),
            (0, 0, None, None), (1, 0, 0, 0), (None, 0, None, None), ("", 0, 0, 0), (False, False, None, None),
            (False, True, 0, 0), (False, None, 0, 0), (False, "0", 0, 0), (False, 0, False, 0), (False, 0, 0, False),
            (False, 0, True, True), (False, 0, 1, True), (False, 0, 2, 0), (False, 0, 0, -1), (False, 0, 0, "end"),
            (False, 0, (0,), 0), (False, 0, [0], 0), (False, (0,), 0, 0), (False, 0, PLAIN, 0), PLAIN, (FIRST,),
            (False, PLAIN, 0, 0), (PLAIN, 0, 0, 0), ([], 0, 0, 0),
        ]
        dead = Scheme(2, [0, 1], bars=every_pair((0, 1)))
        for scheme in (PLAIN, dead):
            paper = difference_paper(scheme)
            for other in others:
                self.assertIs(is_difference_paper(scheme, paper + [other]), False, repr(other))
                self.assertIs(is_difference_paper(scheme, [other] + paper), False, repr(other))
                for at in range(len(paper)):
                    given = paper[:at] + [other] + paper[at + 1:]
                    self.assertIs(is_difference_paper(scheme, given), False, repr(other))

    def test_changed_items(self):
        for scheme in (PLAIN, signed(), Scheme(2, [1, 2]), Scheme(3, [-7, 0, 1]), Scheme(-2, [0, 1], bars=[(1, 1)])):
            paper = difference_paper(scheme)
            for at, (unlike, left, one, other) in enumerate(paper):
                for changed in (
                    (not unlike, left, one, other), (unlike, left + 1, one, other), (unlike, left - 1, one, other),
                    (unlike, left, other, one), (unlike, left, None, other), (unlike, left, one, scheme.digits[0]),
                    (unlike, -left, one, other), (unlike, left + HUNDRED, one, other),
                ):
                    given = paper[:at] + [changed] + paper[at + 1:]
                    self.assertIs(is_difference_paper(scheme, given), shows_one_way(scheme, given), (at, changed))

    def test_lists_of_many_kinds(self):
        chance = random.Random(11)
        found = {True: 0, False: 0}
        for scheme in edge_schemes() + mixed_schemes(100, 3, seed=12):
            for _ in range(12):
                extra = (
                    chance.choice((True, False)), chance.randint(-3, 3),
                    chance.choice((None, *scheme.digits)), chance.choice((None, *scheme.digits)),
                )
                starts = [FIRST] if chance.random() < 0.5 or extra == FIRST else [FIRST, extra]
                given = differences_reached(scheme, *starts)
                if chance.random() < 0.1:
                    given.pop(chance.randrange(len(given)))
                chance.shuffle(given)
                if len(given) > 60:
                    continue
                expected = shows_one_way(scheme, given)
                self.assertIs(is_difference_paper(scheme, given), expected, (str(scheme), extra))
                found[expected] += 1
        self.assertGreater(min(found.values()), 50)

    def test_any_value(self):
        for scheme in (PLAIN, SURPLUS, Scheme(2, [0])):
            for wrong in any_values():
                self.assertIs(is_difference_paper(scheme, wrong), False, repr(wrong))

    def test_what_is_handed_in_is_not_changed(self):
        given = list(TWO)
        is_difference_paper(PLAIN, given)
        self.assertEqual(given, TWO)
        wrong = [FIRST, [False, 0, 0, 0], {"a": []}]
        is_difference_paper(PLAIN, wrong)
        self.assertEqual(wrong, [FIRST, [False, 0, 0, 0], {"a": []}])
