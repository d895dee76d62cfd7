"""The states of a form, and where its readings lead."""

from oddfigures.pairs import Carries, are_carries
from oddfigures.terms import are_lasts, are_signs, readings_behind, signs_behind, total_of


def is_state_like(terms, target, value):
    """Tell whether any value is a tuple of the kind of states, whether or not readings lead to it."""
    if not isinstance(value, tuple) or len(value) != 3:
        return False
    lasts, signs, carries = value
    return are_lasts(terms, lasts) and are_signs(terms, signs) and are_carries(target, carries)


class StateGraph:
    """The states of a form, found as far as they are asked for, each behind those with shorter ways to them.

    A state is kept as a node (lasts, signs, bits), and known by the number of the node.
    """

    def __init__(self, terms, target):
        self._terms = terms
        self._target = target
        self._carries = Carries(target)
        self._turns = {}
        first = (tuple([None for _ in terms]), tuple([1 for _ in terms]), self._carries.bits_of([(0, None)]))
        self._nodes = [first]
        self._known = {first: True}
        self._sources = [None]
        self._passed = 0

    def turns(self, lasts, signs):
        """Return the readings that may follow, each with its total and with the signs behind it."""
        if (lasts, signs) not in self._turns:
            self._turns[lasts, signs] = [
                (
                    reading, total_of(self._terms, signs, reading),
                    signs_behind(self._terms, self._target.base, signs, reading),
                )
                for reading in readings_behind(self._terms, lasts)
            ]
        return self._turns[lasts, signs]

    def _nodes_behind(self, node):
        """Return the nodes behind the readings that may follow a node, in the order of the readings."""
        lasts, signs, bits = node
        return [
            (reading, later_signs, self._carries.behind(bits, total))
            for reading, total, later_signs in self.turns(lasts, signs)
        ]

    def _pass_one(self):
        """Find the nodes behind the next node whose readings were not gone through."""
        behind = self._nodes_behind(self._nodes[self._passed])
        for node in behind:
            if node not in self._known:
                self._known[node] = True
                self._nodes.append(node)
                self._sources.append(self._passed)
        self._passed += 1

    def has(self, number):
        """Tell whether there is a state with this number."""
        while len(self._nodes) <= number and self._passed < len(self._nodes):
            self._pass_one()
        return number < len(self._nodes)

    def how_many(self):
        """Return how many states there are."""
        while self._passed < len(self._nodes):
            self._pass_one()
        return len(self._nodes)

    def _told(self, node):
        """Return a node as the state that it stands for."""
        lasts, signs, bits = node
        return lasts, signs, self._carries.pairs_of(bits)

    def state_at(self, number):
        """Return the state with this number."""
        return self._told(self._nodes[number])

    def has_state(self, value):
        """Tell whether any value is a state of the form."""
        if not is_state_like(self._terms, self._target, value):
            return False
        lasts, signs, pairs = value
        node = (lasts, signs, self._carries.bits_of(pairs))
        if self._told(node) != value:
            return False
        while node not in self._known and self._passed < len(self._nodes):
            self._pass_one()
        return node in self._known

    def state_behind(self, state, reading):
        """Return the state behind a reading that may follow a state."""
        lasts, signs, pairs = state
        bits = self._carries.behind(self._carries.bits_of(pairs), total_of(self._terms, signs, reading))
        return self._told((reading, signs_behind(self._terms, self._target.base, signs, reading), bits))

    def is_failing(self, number):
        """Tell whether the state with this number has no open pair."""
        return not self._carries.has_open(self._nodes[number][2])

    def readings_to(self, number):
        """Return the readings of a shortest way to the state with this number."""
        readings = []
        # The lasts of a state are the reading that led to it.
        while self._sources[number] is not None:
            readings.append(self._nodes[number][0])
            number = self._sources[number]
        return readings[::-1]
