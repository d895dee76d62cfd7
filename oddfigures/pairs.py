"""Pairs (carry, right) of a target: what is left to be written, and what stands directly right of it."""

from oddfigures.digits import GREATEST_DIGIT, is_whole
from oddfigures.paths import OpenPlaces
from oddfigures.terms import END, is_item


def is_right_of_target(target, value):
    """Tell whether any value may stand right of what is left: None, a digit of the target, or END."""
    return value is None or is_item(target, value)


def is_pair(target, value):
    """Tell whether any value is a tuple of an integer and what may stand right of it."""
    if not isinstance(value, tuple) or len(value) != 2:
        return False
    return is_whole(value[0]) and is_right_of_target(target, value[1])


def are_carries(target, value):
    """Tell whether any value is a tuple of pairs, in whatever order."""
    return isinstance(value, tuple) and all([is_pair(target, item) for item in value])


def _rank(pair):
    """Return by what pairs are ordered: END stands behind all digits."""
    carry, right = pair
    if right == END:
        return carry, GREATEST_DIGIT + 1
    return carry, -GREATEST_DIGIT - 1 if right is None else right


class Pairs:
    """What may be written at the pairs of a target, and which of them are open; keeps what it has found out."""

    def __init__(self, target):
        self._base = target.base
        self._places = OpenPlaces(target)
        self._behind = {}

    def behind(self, pair):
        """Return the pairs behind a pair: the right of each is the digit, or END, that is written."""
        if pair not in self._behind:
            total, right = pair
            found = [] if right == END else self._places.behind(pair)
            if total % self._base == 0:
                found.append((total // self._base, END))
            self._behind[pair] = found
        return self._behind[pair]

    def is_open(self, pair):
        """Tell whether what is left can be written."""
        if pair[1] == END:
            return pair[0] == 0
        return self._places.is_open(pair)


class Carries:
    """Sets of pairs, each told by an integer whose bits stand for the pairs in it."""

    def __init__(self, target):
        self._pairs = Pairs(target)
        self._listed = []
        self._bits = {}
        self._bits_behind = {}
        self._unions = {}
        self._decoded = {}

    def bits_of(self, pairs):
        """Return the integer that stands for these pairs, in whatever order they are."""
        bits = 0
        for pair in pairs:
            if pair not in self._bits:
                self._bits[pair] = 1 << len(self._listed)
                self._listed.append(pair)
            bits = bits | self._bits[pair]
        return bits

    def last_pair(self, bits):
        """Return the one of the pairs that an integer stands for, at least one, that came up last."""
        return self._listed[bits.bit_length() - 1]

    def pairs_of(self, bits):
        """Return the pairs that an integer stands for, as a tuple in order."""
        if bits not in self._decoded:
            pairs = []
            left = bits
            while left:
                pairs.append(self.last_pair(left))
                left = left - (1 << (left.bit_length() - 1))
            self._decoded[bits] = tuple(sorted(pairs, key=_rank))
        return self._decoded[bits]

    def behind(self, bits, total):
        """Return the integer for all pairs behind these ones, with the total added to their carries."""
        if (bits, total) not in self._unions:
            union = 0
            for carry, right in self.pairs_of(bits):
                pair = (carry + total, right)
                if pair not in self._bits_behind:
                    self._bits_behind[pair] = self.bits_of(self._pairs.behind(pair))
                union = union | self._bits_behind[pair]
            self._unions[bits, total] = union
        return self._unions[bits, total]

    def has_open(self, bits):
        """Tell whether one of the pairs is open."""
        for pair in self.pairs_of(bits):
            if self._pairs.is_open(pair):
                return True
        return False
