"""What a machine with a lag may do: its positions, the readings that follow, and what may be written then."""

from oddfigures.pairs import Pairs, is_pair
from oddfigures.terms import END, are_lasts, are_signs, is_reading, readings_behind, signs_behind, total_of


class Game:
    """The positions of a form for a lag, and where readings and what is written lead.

    A position (lasts, held, signs, carry, right) is kept as a spot (number, carry, right), with the number of its
    first three items.
    """

    def __init__(self, form, lag):
        self._terms = form.terms
        self._target = form.target
        self._lag = lag
        self._pairs = Pairs(form.target)
        self._heads = []
        self._numbers = {}
        self._more = []
        self._turns = {}

    def _number_of(self, head):
        """Return the number of the first three items of a position."""
        if head not in self._numbers:
            self._numbers[head] = len(self._heads)
            self._heads.append(head)
            self._more.append(self._value_of_held(head))
        return self._numbers[head]

    def _value_of_held(self, head):
        """Return what the digits of the held readings come to."""
        _, held, signs = head
        total = 0
        for at, (factor, scheme) in enumerate(self._terms):
            value = 0
            for reading in held[::-1]:
                if reading[at] != END:
                    value = value * scheme.base + reading[at]
            total = total + signs[at] * factor * value
        return total

    def spot(self, position):
        """Return the spot of a position."""
        lasts, held, signs, carry, right = position
        return self._number_of((lasts, held, signs)), carry, right

    def position(self, spot):
        """Return the position of a spot."""
        number, carry, right = spot
        return self._heads[number] + (carry, right)

    def first(self):
        """Return the first spot."""
        return self.spot((tuple([None for _ in self._terms]), (), tuple([1 for _ in self._terms]), 0, None))

    def is_position(self, value):
        """Tell whether any value is a tuple of the kind of positions, whether or not readings lead to it."""
        if not isinstance(value, tuple) or len(value) != 5:
            return False
        lasts, held, signs, carry, right = value
        if not isinstance(held, tuple) or len(held) > self._lag:
            return False
        if not all([is_reading(self._terms, reading) for reading in held]):
            return False
        return are_lasts(self._terms, lasts) and are_signs(self._terms, signs) and is_pair(self._target, (carry, right))

    def turns(self, spot):
        """Return the readings that may follow, in order.

        Each has the total of the reading that is worked off, or None, and the number of the first three items behind.
        """
        number = spot[0]
        if number not in self._turns:
            lasts, held, signs = self._heads[number]
            readings = readings_behind(self._terms, lasts)
            self._turns[number] = [self._turn(held, signs, reading) for reading in readings]
        return self._turns[number]

    def _turn(self, held, signs, reading):
        """Return what a reading is that is put behind the held ones."""
        held = held + (reading,)
        if len(held) <= self._lag:
            return reading, None, self._number_of((reading, held, signs))
        later_signs = signs_behind(self._terms, self._target.base, signs, held[0])
        number = self._number_of((reading, held[1:], later_signs))
        return reading, total_of(self._terms, signs, held[0]), number

    def spots_behind(self, spot, turn):
        """Return the spots to which a turn leads: the right of each is what is written, if anything is."""
        _, carry, right = spot
        _, total, number = turn
        if total is None:
            return [(number, carry, right)]
        return [(number, rest, written) for rest, written in self._pairs.behind((carry + total, right))]

    def left_at_end(self, spot):
        """Return the pair of what is left to be written if all rows end, and of what stands right of it."""
        number, carry, right = spot
        return carry + self._more[number], right

    def can_end(self, spot):
        """Tell whether a machine may write what is left if all rows end."""
        return self._pairs.is_open(self.left_at_end(spot))
