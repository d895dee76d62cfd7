"""Whether schemes write all numbers, the same ones, or sums of their own ones [81], [82], [83], [84]."""

import itertools
import random

from oddfigures.errors import InvalidWord, NotScheme, TooMany, UnlikeBases
from oddfigures.forms import Form, state_count
from oddfigures.schemes import Scheme, plain_scheme
from oddfigures.wholes import (
    alike, breaking, closed_under, parting, unwritten, writes_all, writes_down, writes_up,
)
from tests.checks import Checks, no_schemes
from tests.form_reference import some_scheme
from tests.reference import edge_schemes, every_pair, is_open, is_row, value
from tests.values import BASES, any_values, signed

SEVEN = Scheme(3, [-7, 0, 1])
BALANCED = Scheme(3, [-1, 0, 1])
WORDS = ("plus", "minus", "negative", "double")
# How many states the deciding forms of these may have; some go somewhat beyond the limit of the document.
MOST = 2000


KNOWN = {}


def writes(scheme, number):
    key = (str(scheme), number)
    if key not in KNOWN:
        KNOWN[key] = is_open(scheme, (number, None))
    return KNOWN[key]


def may_be_used(*forms):
    try:
        return all(state_count(form, MOST) > 0 for form in forms)
    except TooMany:
        return False


def whole_schemes():
    """Schemes for which [81] is used."""
    chance = random.Random(8)
    schemes = edge_schemes() + [some_scheme(chance, chance.choice(BASES), 6, fuller=k % 2 == 0) for k in range(150)]
    schemes += [plain_scheme(base) for base in BASES] + [-plain_scheme(base) for base in BASES]
    return [
        scheme for scheme in schemes
        if may_be_used(*[Form([(factor, plain_scheme(abs(scheme.base)))], scheme) for factor in (1, -1)])
    ]


class WholeTest(Checks):
    def test_as_the_numbers_tell(self):
        found = {side: {True: 0, False: 0} for side in ("up", "down", "all")}
        for scheme in whole_schemes():
            answers = {"up": writes_up(scheme), "down": writes_down(scheme), "all": writes_all(scheme)}
            for side in answers:
                self.assertIn(answers[side], (True, False))
                self.assertIs(answers[side].__class__, bool)
                found[side][answers[side]] += 1
            self.assertIs(answers["all"], answers["up"] and answers["down"])
            for side, sign in (("up", 1), ("down", -1)):
                number = unwritten(scheme, side)
                self.assertIs(number is None, answers[side])
                if number is None:
                    self.assertTrue(all(writes(scheme, sign * k) for k in range(80)), str(scheme))
                else:
                    self.check_integers(number)
                    self.assertGreaterEqual(sign * number, 0)
                    self.assertFalse(writes(scheme, number), (str(scheme), number))
        for side in found:
            self.assertGreater(min(found[side].values()), 20)

    def test_some_schemes(self):
        for scheme, up, down in [
            (plain_scheme(2), True, False), (plain_scheme(-2), True, True), (-plain_scheme(2), False, True),
            (-plain_scheme(-2), True, True), (signed(), True, True), (SEVEN, True, True), (BALANCED, True, True),
            (Scheme(3, [0, 1, 5]), False, False), (Scheme(2, [1, 2]), True, False), (Scheme(2, [-1, -2]), False, True),
            (Scheme(2, [0]), False, False), (Scheme(2, [0, 1], bars=[(1, 1)]), False, False),
            (Scheme(2, [0, 1, 3], bars=[(1, 1)]), True, False), (Scheme(6, [1, 2, 3, 4, 5, 6]), True, False),
            (Scheme(2, [0, 1], bars=every_pair((0, 1))), False, False), (Scheme(-6, [0, 1, 2, 3, 4, 5]), True, True),
        ]:
            self.assertIs(writes_up(scheme), up, str(scheme))
            self.assertIs(writes_down(scheme), down, str(scheme))
            self.assertIs(writes_all(scheme), up and down, str(scheme))
        self.assertIs(writes_all(scheme=signed()), True)
        self.assertIs(writes_up(scheme=signed()), True)
        self.assertIs(writes_down(scheme=signed()), True)
        self.assertIsNone(unwritten(side="up", scheme=SEVEN))
        # 0 is written by every scheme.
        self.assertGreater(unwritten(Scheme(2, [0]), "up"), 0)
        self.assertLess(unwritten(Scheme(2, [0]), "down"), 0)

    def test_no_scheme(self):
        for function in (writes_up, writes_down, writes_all):
            self.check_no_scheme(function)
        self.check_no_scheme(unwritten, "up")
        self.check_no_scheme(unwritten, "side")

    def test_no_side(self):
        for scheme in (SEVEN, plain_scheme(2)):
            for wrong in any_values() + ["Up", "UP", "up ", " up", "upp", "u", "downs", "plus", ["up"], ("up",),
                {"up": 1}]:
                self.check_error(InvalidWord, "word", wrong, unwritten, scheme, wrong)

    def test_interface(self):
        for function in (writes_up, writes_down, writes_all):
            self.check_interface("oddfigures.wholes", function, "(scheme)")
        self.check_interface("oddfigures.wholes", unwritten, "(scheme, side)")


class AlikeTest(Checks):
    def test_as_the_numbers_tell(self):
        found = {True: 0, False: 0}
        schemes = whole_schemes()
        for at, one in enumerate(schemes):
            for other in schemes[at:at + 60:4] + [one.other_base(), one.free()]:
                if abs(one.base) != abs(other.base):
                    continue
                if not may_be_used(Form([(1, one)], other), Form([(1, other)], one)):
                    continue
                number = parting(one, other)
                self.assertIs(alike(one, other), number is None)
                found[number is None] += 1
                if number is None:
                    self.assertTrue(all(writes(one, k) == writes(other, k) for k in range(-40, 41)),
                        (str(one), str(other)))
                else:
                    self.check_integers(number)
                    self.assertNotEqual(writes(one, number), writes(other, number))
                    self.assertIsNotNone(parting(other, one))
        self.assertGreater(min(found.values()), 60)

    def test_some_schemes(self):
        for one, other, expected in [
            (SEVEN, BALANCED, True), (BALANCED, plain_scheme(-3), True), (plain_scheme(2), plain_scheme(-2), False),
            (plain_scheme(2), plain_scheme(2), True), (signed(), signed().free(), True),
            (plain_scheme(2), Scheme(2, [0, 1, 2]), True),
            (Scheme(2, [1, 2]), plain_scheme(2), True), (Scheme(2, [0]), Scheme(-2, [0]), True),
            (Scheme(2, [0]), Scheme(2, [1]), False),
            (Scheme(2, [0, 1], bars=[(1, 1)]), plain_scheme(2), False),
            (plain_scheme(2), Scheme(2, [0, 1], bars=[(1, 1)]), False),
            (plain_scheme(2), -plain_scheme(2), False), (Scheme(2, [0, 2]), Scheme(2, [2, 4]), True),
        ]:
            self.assertIs(alike(one, other), expected, (str(one), str(other)))
            self.assertIs(alike(other=one, one=other), expected)
            self.assertIs(parting(other=other, one=one) is None, expected)
        # What the first one alone writes, and what the second one alone writes.
        self.assertIn(parting(plain_scheme(2), Scheme(2, [0])), (1, 2, 3))
        self.assertIn(parting(Scheme(2, [0]), plain_scheme(2)), (1, 2, 3))

    def test_no_scheme(self):
        for function in (alike, parting):
            self.check_no_scheme(function, SEVEN)
            for wrong in no_schemes():
                self.check_error(NotScheme, "value", wrong, function, SEVEN, wrong)

    def test_unlike_bases(self):
        for one, other in itertools.product(BASES, repeat=2):
            if abs(one) == abs(other):
                self.assertIs(alike(Scheme(one, [0]), Scheme(other, [0])), True)
                continue
            for function in (alike, parting):
                with self.assertRaises(UnlikeBases) as caught:
                    function(plain_scheme(one), plain_scheme(other))
                self.assertEqual(caught.exception.value, other)

    def test_interface(self):
        for function in (alike, parting):
            self.check_interface("oddfigures.wholes", function, "(one, other)")


class ClosedTest(Checks):
    def terms(self, scheme, word):
        return {
            "plus": [(1, scheme), (1, scheme)], "minus": [(1, scheme), (-1, scheme)],
            "negative": [(-1, scheme)], "double": [(2, scheme)],
        }[word]

    def made(self, word, numbers):
        return {
            "plus": lambda m, n: m + n, "minus": lambda m, n: m - n, "negative": lambda m: -m,
            "double": lambda m: 2 * m,
        }[word](*numbers)

    def test_as_the_numbers_tell(self):
        found = {word: {True: 0, False: 0} for word in WORDS}
        for scheme in whole_schemes():
            written = [k for k in range(-13, 14) if writes(scheme, k)]
            for word in WORDS:
                if not may_be_used(Form(self.terms(scheme, word), scheme)):
                    continue
                rows = breaking(scheme, word)
                self.assertIs(closed_under(scheme, word), rows is None)
                found[word][rows is None] += 1
                many = 2 if word in ("plus", "minus") else 1
                if rows is None:
                    for numbers in itertools.product(written, repeat=many):
                        self.assertTrue(writes(scheme, self.made(word, numbers)), (str(scheme), word, numbers))
                    continue
                self.assertIs(rows.__class__, tuple)
                self.assertEqual(len(rows), many)
                for row in rows:
                    self.check_row(row)
                    self.assertTrue(is_row(scheme, row))
                number = self.made(word, [value(scheme.base, row) for row in rows])
                self.assertFalse(writes(scheme, number), (str(scheme), word, rows))
        for word in WORDS:
            self.assertGreater(min(found[word].values()), 15)

    def test_some_schemes(self):
        for scheme, closed in [
            (SEVEN, WORDS), (signed(), WORDS), (plain_scheme(-2), WORDS), (plain_scheme(2), ("plus", "double")),
            (-plain_scheme(2), ("plus", "double")), (Scheme(2, [0]), WORDS), (Scheme(2, [1]), ()),
            (Scheme(2, [0, 1], bars=[(1, 1)]), ("double",)), (Scheme(2, [0, 2]), ("plus", "double")),
            (Scheme(2, [-2, 0, 2]), WORDS), (Scheme(3, [-1, 1]), ("negative",)), (Scheme(3, [0, 1, 5]), ()),
        ]:
            for word in WORDS:
                self.assertIs(closed_under(scheme, word), word in closed, (str(scheme), word))
                self.assertIs(closed_under(word=word, scheme=scheme), word in closed)
        self.assertEqual(breaking(word="negative", scheme=plain_scheme(2)), ((1,),))
        self.assertEqual(breaking(Scheme(2, [1]), "double"), ((1,),))
        self.assertEqual(breaking(Scheme(2, [1]), "plus"), ((1,), (1,)))
        self.assertIn(breaking(plain_scheme(2), "minus"), [((0,), (1,)), ((), (1,))])

    def test_no_scheme(self):
        for function in (closed_under, breaking):
            self.check_no_scheme(function, "plus")
            self.check_no_scheme(function, "word")

    def test_no_word(self):
        for function in (closed_under, breaking):
            for wrong in any_values() + ["Plus", "plus ", "+", "times", "up", ["plus"], ("double",), {"plus": 1},
                "negativ"]:
                self.check_error(InvalidWord, "word", wrong, function, signed(), wrong)

    def test_interface(self):
        for function in (closed_under, breaking):
            self.check_interface("oddfigures.wholes", function, "(scheme, word)")
