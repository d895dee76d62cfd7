"""What the document says of places, rows, papers and lists, told anew: slowly, and straight from its words."""

import itertools
import random

from oddfigures.schemes import Scheme, plain_scheme
from tests.values import BASES, signed

HUNDRED = 10 ** 99 + 289
SURPLUS = Scheme(2, [-6, 7])


def every_pair(digits):
    return list(itertools.product(digits, repeat=2))


def edge_schemes():
    """Schemes for the edges that the document names."""
    return [
        signed(), Scheme(2, [-1, 0, 1]), plain_scheme(2), plain_scheme(-2), plain_scheme(6), plain_scheme(-6),
        SURPLUS, Scheme(-2, [-6, 7]), Scheme(2, [-6, 0, 7]), Scheme(3, [-7, 0, 1]), Scheme(3, [0, 1, 5]),
        Scheme(2, [-2, -1]), Scheme(-3, [-9, -4, -2]), Scheme(2, [1, 2]), Scheme(-4, [1, 2, 3, 4]), Scheme(5, [3]),
        Scheme(2, [0]), Scheme(-2, [0], bars=[(0, 0)]), Scheme(2, [1], bars=[(1, 1)]), Scheme(-2, [-1]),
        Scheme(2, [-1, 0, 1], bars=every_pair((-1, 0, 1))), Scheme(-3, [1, 2, 6], bars=every_pair((1, 2, 6))),
        Scheme(3, [-1, 0, 1]), Scheme(4, [-1, 0, 2, 9]), Scheme(2, [0, 1, 2, 3], bars=[(3, 3), (2, 1)]),
        Scheme(2, [-9, -8, -3, 0, 7, 9]), Scheme(-2, [0, 1, 2, 3, 4, 5]), Scheme(6, [-3, -2, -1, 0, 1, 2]),
        Scheme(-2, [0, 1], bars=[(1, 1)]), Scheme(2, [0, 1], bars=[(0, 0)]), Scheme(2, [-2, 0, 2]),
        Scheme(3, [-1, 0, 1], bars=[(1, -1), (-1, 1)]), Scheme(2, [-4, -1, 0, 3], bars=[(0, 3), (-4, -4)]),
    ]


def mixed_schemes(many, most_digits, seed=1):
    """Schemes of all kinds, the same ones on every call."""
    chance = random.Random(seed)
    schemes = []
    for _ in range(many):
        reach = chance.choice((1, 2, 3, 9))
        digits = chance.sample(range(-reach, reach + 1), chance.randint(1, min(most_digits, 2 * reach + 1)))
        share = chance.choice((0, 0, 0.2, 0.5))
        bars = [pair for pair in every_pair(digits) if chance.random() < share]
        schemes.append(Scheme(chance.choice(BASES), digits, bars=bars))
    return schemes


def is_row(scheme, row):
    if any(digit not in scheme.digits for digit in row):
        return False
    return not any((row[k], row[k + 1]) in scheme.bars for k in range(len(row) - 1))


def is_plain(row):
    return row == () or row[0] != 0


def value(base, row):
    return sum(row[k] * base ** (len(row) - 1 - k) for k in range(len(row)))


def rows_of(scheme, length):
    """All rows with so many digits, in Python's order."""
    return [row for row in itertools.product(scheme.digits, repeat=length) if is_row(scheme, row)]


def rows_up_to(scheme, length):
    """All rows with at most so many digits, the shorter ones first."""
    return [row for k in range(length + 1) for row in rows_of(scheme, k)]


def plain_rows_by_value(scheme, length):
    """The plain rows with at most so many digits for each value that they have, the shorter ones first."""
    found = {}
    for row in rows_up_to(scheme, length):
        if is_plain(row):
            found.setdefault(value(scheme.base, row), []).append(row)
    return found


def depth_for(scheme, most=1500):
    """A length up to which all rows of the scheme can be gone through."""
    length = 1
    while len(scheme) ** (length + 1) <= most and length < 9:
        length += 1
    return length


def steps_from(scheme, place):
    """The places to which steps lead [4]."""
    rest, right = place
    found = []
    for digit in sorted(scheme.digits):
        if (rest - digit) % abs(scheme.base) == 0 and (right is None or (digit, right) not in scheme.bars):
            found.append(((rest - digit) // scheme.base, digit))
    return found


def closure(starts, follow):
    """The starts and all to which this function leads from them."""
    found = list(starts)
    known = set(starts)
    for item in found:
        for other in follow(item):
            if other not in known:
                known.add(other)
                found.append(other)
    return found


def reached(scheme, *starts):
    """The places themselves and all to which steps lead from them."""
    return closure(starts, lambda place: steps_from(scheme, place))


def is_open(scheme, place):
    return any(rest == 0 for rest, _ in reached(scheme, place))


def has_plain_row(scheme, rest, right):
    """Whether rest is the value of a plain row of one or more digits that may stand left of right."""
    found = reached(scheme, *steps_from(scheme, (rest, right)))
    return any(other == 0 and digit != 0 for other, digit in found)


def counts_by_length(scheme, number, length):
    """How many plain rows of each length up to this one have this value."""
    ways = {(number, None): 1}
    counts = []
    for _ in range(length + 1):
        counts.append(sum(many for (rest, right), many in ways.items() if rest == 0 and right != 0))
        further = {}
        for place, many in ways.items():
            for other in steps_from(scheme, place):
                further[other] = further.get(other, 0) + many
        ways = further
    return counts


def count_of_plain_rows(scheme, number):
    """How many plain rows have this value, None for infinitely many.

    A row with as many digits as there are places passes through some place twice; if there is one, there
    are infinitely many rows, and then one of them is at most twice as long.
    """
    places = len(reached(scheme, (number, None)))
    counts = counts_by_length(scheme, number, 2 * places)
    return None if any(counts[places:]) else sum(counts)


def is_loop_of(scheme, number, front, middle, back, times=5):
    """Whether the rows with 0, 1, .. times the middle are plain rows with this value."""
    rows = [front + middle * k + back for k in range(times)]
    return middle != () and all(
        is_row(scheme, row) and is_plain(row) and value(scheme.base, row) == number for row in rows
    )


def differences_from(scheme, difference):
    """The differences to which steps lead [52]."""
    unlike, left, one, other = difference
    found = []
    for x, y in every_pair(scheme.digits):
        if one is not None and (x, one) in scheme.bars or other is not None and (y, other) in scheme.bars:
            continue
        if (left - x + y) % abs(scheme.base) == 0:
            found.append((unlike or x != y, (left - x + y) // scheme.base, x, y))
    return found


def differences_reached(scheme, *starts):
    """The differences themselves and all to which steps lead from them."""
    return closure(starts, lambda difference: differences_from(scheme, difference))


def shows_one_way(scheme, differences):
    """Whether tuples of the right kind are a list as in [53]."""
    if len(set(differences)) < len(differences) or (False, 0, None, None) not in differences:
        return False
    known = set(differences)
    for difference in differences:
        unlike, left, one, other = difference
        if any(behind not in known for behind in differences_from(scheme, difference)):
            return False
        if unlike and left == 0 and one != 0 and other != 0:
            return False
        if other != 0 and has_plain_row(scheme, left, one):
            return False
        if one != 0 and has_plain_row(scheme, -left, other):
            return False
    return True


def some_prices(scheme):
    """Several prices for a scheme, with 0 and 1000 among them."""
    digits = scheme.digits
    return [
        {digit: 1 for digit in digits}, {digit: 0 for digit in digits}, {digit: 1000 for digit in digits},
        {digit: abs(digit) for digit in digits}, {digit: 100 + 7 * digit for digit in digits[::-1]},
        {digit: 0 if digit == digits[0] else 1000 for digit in digits}, {digit: digit % 2 for digit in digits},
        {digit: (5 * digit + 3) % 4 for digit in digits},
    ]


def price(row, prices):
    return sum(prices[digit] for digit in row)


def shows_cheapest(scheme, number, prices, row, amounts):
    """Whether a plain row with this value and tuples of the right kind are as in [63]."""
    given = dict(amounts)
    places = reached(scheme, (number, None))
    if len(given) < len(amounts) or set(given) != set(places):
        return False
    if given[number, None] != price(row, prices):
        return False
    for place in places:
        if given[place] < 0 or (place[0] == 0 and place[1] != 0 and given[place] != 0):
            return False
        if any(given[place] > prices[other[1]] + given[other] for other in steps_from(scheme, place)):
            return False
    return True
