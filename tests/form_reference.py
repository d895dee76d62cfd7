"""What the document says of forms and machines, told anew: slowly, and straight from its words."""

import itertools
import random

from oddfigures.errors import TooMany
from oddfigures.forms import Form, state_count
from oddfigures.places import writing
from oddfigures.schemes import Scheme, plain_scheme
from tests.reference import closure, every_pair, is_open, rows_up_to, steps_from, value
from tests.values import BASES, signed

END = "end"
BARRED = Scheme(-2, [0, 1], bars=[(1, 1)])
# Always written, and with these least lags.
LAG_FORMS = {
    0: Form([(1, plain_scheme(2))], Scheme(2, [0, 1, 3])),
    1: Form([(1, plain_scheme(2))], Scheme(2, [0, 1, 3], bars=[(1, 1)])),
    2: Form([(1, plain_scheme(2))], Scheme(2, [-1, 0, 3], bars=[(3, -1), (3, 3)])),
    None: Form([(1, plain_scheme(2))], Scheme(2, [0, 1, 3], bars=[(0, 1)])),
}


def edge_forms():
    """Forms for the edges that the document names."""
    two, other_two = plain_scheme(2), plain_scheme(-2)
    full = Scheme(2, [-1, 0, 1])
    one_digit, no_zero = Scheme(2, [1]), Scheme(2, [1, 2])
    forms = [Form([(factor, two)], signed()) for factor in (-2, -1, 1, 2)]
    forms += [Form([(factor, other_two)], signed()) for factor in (-2, -1, 1, 2)]
    forms += [Form([(one, two), (other, two)], signed()) for one in (-2, 1) for other in (-1, 2)]
    forms += [Form([(one, two), (other, other_two)], full) for one in (-1, 2) for other in (-2, 1)]
    forms += [
        Form([(1, two)], two), Form([(2, two)], two), Form([(-1, two)], two), Form([(1, two)], other_two),
        Form([(1, other_two)], two), Form([(1, other_two)], other_two.other_base()), Form([(-2, other_two)], other_two),
        Form([(1, two), (1, two)], two), Form([(1, two), (-1, two)], two), Form([(1, two), (-1, two)], other_two),
        Form([(1, signed())], two), Form([(1, signed()), (-2, signed())], signed()), Form([(2, full)], signed()),
        Form([(1, two)], one_digit), Form([(1, one_digit)], two), Form([(1, one_digit)], one_digit),
        Form([(2, one_digit)], one_digit), Form([(1, no_zero)], two), Form([(1, two)], no_zero),
        Form([(-1, two)], no_zero), Form([(1, no_zero), (1, one_digit)], no_zero), Form([(1, BARRED)], full),
        Form([(1, BARRED)], BARRED), Form([(1, BARRED.other_base()), (2, BARRED)], full.other_base()),
        Form([(1, Scheme(2, [0]))], Scheme(2, [0])), Form([(1, Scheme(-2, [0]))], one_digit),
        Form([(1, Scheme(2, [0, 1], bars=every_pair((0, 1))))], Scheme(-2, [0, 1])),
        Form([(1, two)], Scheme(2, [0, 1], bars=every_pair((0, 1)))), Form([(1, two)], Scheme(2, [0, 1, 2])),
        Form([(1, Scheme(3, [-7, 0, 1]))], Scheme(3, [-1, 0, 1])),
        Form([(-1, Scheme(3, [-1, 0, 1]))], plain_scheme(-3)),
        Form([(2, plain_scheme(-6))], plain_scheme(6)), Form([(1, plain_scheme(6)), (-1, plain_scheme(6))],
            plain_scheme(-6)),
        Form([(1, Scheme(2, [-6, 7]))], Scheme(2, [-1, 0, 1])), Form([(1, two)], Scheme(2, [-6, 0, 7])),
        *LAG_FORMS.values(),
    ]
    return forms


def mixed_forms(many, most_states, most_digits=3, seed=1):
    """Forms of all kinds with at most so many states, the same ones on every call."""
    chance = random.Random(seed)
    forms = []
    while len(forms) < many:
        base = chance.choice(BASES)
        terms = [
            (chance.choice((-2, -1, 1, 2)), some_scheme(chance, chance.choice((base, base, -base)), most_digits))
            for _ in range(chance.choice((1, 2)))
        ]
        form = Form(terms, some_scheme(chance, base, 6, fuller=chance.random() < 0.6))
        try:
            state_count(form, most_states)
        except TooMany:
            continue
        forms.append(form)
    return forms


def some_scheme(chance, base, most_digits, fuller=False):
    """A scheme of any kind; a fuller one has a digit for each remainder, and few bars."""
    reach = chance.choice((1, 2, 3, 9))
    digits = chance.sample(range(-reach, reach + 1), chance.randint(1, min(most_digits, 2 * reach + 1)))
    share = chance.choice((0, 0, 0.2, 0.5))
    if fuller:
        least = -chance.randint(0, abs(base) - 1)
        digits = sorted({*range(least, least + abs(base)), *digits[:6 - abs(base)]})
        share = chance.choice((0, 0, 0.1, 0.2))
    return Scheme(base, digits, bars=[pair for pair in every_pair(digits) if chance.random() < share])


def told(form):
    """A form as text, for the messages of tests."""
    return [(factor, str(scheme)) for factor, scheme in form.terms], str(form.target)


def readings_behind(terms, lasts):
    """The readings that may follow [7], in the order of [72]."""
    found = []
    for reading in itertools.product(*[[*sorted(scheme.digits), END] for _, scheme in terms]):
        fits = any(item != END for item in reading)
        for (_, scheme), last, item in zip(terms, lasts, reading):
            if item != END and (last == END or (item, last) in scheme.bars):
                fits = False
        if fits:
            found.append(reading)
    return found


def total_of(terms, signs, reading):
    return sum(
        sign * factor * item for (factor, _), sign, item in zip(terms, signs, reading) if item != END
    )


def signs_behind(terms, target, signs, reading):
    found = []
    for (_, scheme), sign, item in zip(terms, signs, reading):
        if item == END:
            found.append(1)
        elif scheme.base == target.base:
            found.append(sign)
        else:
            found.append(-sign)
    return tuple(found)


def pairs_behind(target, carries, total):
    """The pairs to which pairs lead [8], as a set."""
    found = set()
    for carry, right in carries:
        if right != END:
            found.update(steps_from(target, (carry + total, right)))
        if (carry + total) % abs(target.base) == 0:
            found.add(((carry + total) // target.base, END))
    return found


def state_behind(terms, target, state, reading):
    """The state behind a reading [8]."""
    _, signs, carries = state
    found = pairs_behind(target, carries, total_of(terms, signs, reading))
    ordered = sorted(found, key=lambda pair: (pair[0], 10 if pair[1] == END else pair[1]))
    return reading, signs_behind(terms, target, signs, reading), tuple(ordered)


def first_state(terms):
    return tuple(None for _ in terms), tuple(1 for _ in terms), ((0, None),)


def states_of(form):
    """All states of a form [9]."""
    return closure([first_state(form.terms)], lambda state: [
        state_behind(form.terms, form.target, state, reading) for reading in readings_behind(form.terms, state[0])
    ])


def pair_is_open(target, pair):
    return pair[0] == 0 if pair[1] == END else is_open(target, pair)


def shows_always_written(form, items):
    """Whether tuples of the right kind are a paper as in [74]."""
    terms, target = form.terms, form.target
    if not items or items[0] != first_state(terms):
        return False
    opened = {}
    for lasts, signs, carries in items:
        for pair in carries:
            if pair not in opened:
                opened[pair] = pair_is_open(target, pair)
        if not any(opened[pair] for pair in carries):
            return False
        for reading in readings_behind(terms, lasts):
            later = signs_behind(terms, target, signs, reading)
            behind = pairs_behind(target, carries, total_of(terms, signs, reading))
            if not any(item[0] == reading and item[1] == later and set(item[2]) <= behind for item in items):
                return False
    return True


def value_of(form, rows):
    return sum(factor * value(scheme.base, row) for (factor, scheme), row in zip(form.terms, rows))


def first_lengths_not_written(form, length):
    """How long the longest of the rows is, up to this length, in a shortest example of rows not written, or None."""
    known = {}
    shortest = None
    for rows in itertools.product(*[rows_up_to(scheme, length) for _, scheme in form.terms]):
        number = value_of(form, rows)
        if number not in known:
            known[number] = is_open(form.target, (number, None))
        if not known[number]:
            longest = max(len(row) for row in rows)
            shortest = longest if shortest is None else min(shortest, longest)
    return shortest


def first_position(form):
    return tuple(None for _ in form.terms), (), tuple(1 for _ in form.terms), 0, None


def left_at_end(form, position):
    """What is left to be written if all rows end at a position [92]."""
    _, held, signs, carry, _ = position
    more = 0
    for at, (factor, scheme) in enumerate(form.terms):
        digits = [reading[at] for reading in held if reading[at] != END]
        more += signs[at] * factor * value(scheme.base, tuple(digits[::-1]))
    return carry + more


def can_end(form, position):
    return pair_is_open(form.target, (left_at_end(form, position), position[4]))


def led_to(form, lag, position, reading):
    """The positions to which a reading leads [92], by what is written; None stands for nothing."""
    _, held, signs, carry, right = position
    held = held + (reading,)
    if len(held) <= lag:
        return {None: (reading, held, signs, carry, right)}
    total = carry + total_of(form.terms, signs, held[0])
    later = signs_behind(form.terms, form.target, signs, held[0])
    found = {}
    if right != END:
        for rest, digit in steps_from(form.target, (total, right)):
            found[digit] = (reading, held[1:], later, rest, digit)
    if total % abs(form.target.base) == 0:
        found[END] = (reading, held[1:], later, total // form.target.base, END)
    return found


def table_positions(form, lag, table):
    """The positions of a table in the order of [101], or None if a key is missing or its value may not be written."""
    positions = [first_position(form)]
    for position in positions:
        for reading in readings_behind(form.terms, position[0]):
            leads = led_to(form, lag, position, reading)
            written = None if None in leads else table.get((position, reading))
            if written not in leads:
                return None
            if leads[written] not in positions:
                positions.append(leads[written])
    return positions


def shows_table(form, lag, table):
    """Whether a dict with keys and values of the right kind is a table as in [93]."""
    positions = table_positions(form, lag, table)
    if positions is None or not all(can_end(form, position) for position in positions):
        return False
    keys = [
        (position, reading) for position in positions for reading in readings_behind(form.terms, position[0])
        if len(position[1]) == lag
    ]
    return set(keys) == set(table)


def shows_refuter(form, lag, items):
    """Whether tuples of the right kind are a refuter as in [94]."""
    ranks = {position: rank for position, rank, _ in items}
    if len(ranks) < len(items) or first_position(form) not in ranks:
        return False
    for position, rank, reading in items:
        if reading is None:
            if can_end(form, position):
                return False
            continue
        if reading not in readings_behind(form.terms, position[0]):
            return False
        for other in led_to(form, lag, position, reading).values():
            if other not in ranks or ranks[other] >= rank:
                return False
    return True


def chosen_table(chance, form, lag, most=150):
    """A dict with all keys that it needs, whose values may be written, whether or not its positions can end.

    None if it would have too many positions, or if nothing may be written at some.
    """
    given = {}
    positions = [first_position(form)]
    for position in positions:
        for reading in readings_behind(form.terms, position[0]):
            leads = led_to(form, lag, position, reading)
            if not leads or len(positions) > most:
                return None
            written = sorted(leads, key=repr)[0] if chance.random() < 0.7 else chance.choice(list(leads))
            if written is not None:
                given[position, reading] = written
            if leads[written] not in positions:
                positions.append(leads[written])
    return given


def readings_of(rows):
    """What is read of rows at each place, from the low end."""
    longest = max(len(row) for row in rows)
    return [tuple(row[len(row) - 1 - at] if at < len(row) else END for row in rows) for at in range(longest)]


def front_of(form, position):
    """What is put in front if all rows end at a position [102]."""
    if position[4] == END:
        return ()
    return writing(form.target, left_at_end(form, position), position[4])


def run(form, lag, table, rows):
    """The track and the row that a machine writes [102]."""
    position = first_position(form)
    track = []
    digits = ()
    for reading in readings_of(rows):
        leads = led_to(form, lag, position, reading)
        written = None if None in leads else table[position, reading]
        position = leads[written]
        track.append((reading, written))
        if written not in (None, END):
            digits = (written,) + digits
    return track, front_of(form, position) + digits


def every_rows(form, length):
    """All rows for a form with at most so many digits."""
    return list(itertools.product(*[rows_up_to(scheme, length) for _, scheme in form.terms]))
