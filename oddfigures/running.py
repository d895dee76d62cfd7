"""Machines at work: rows are read from their low ends, and a row of the target is written digit by digit."""

from oddfigures.errors import InvalidTable, NotMachine, UnlikeForms
from oddfigures.forms import check_rows, rows_read
from oddfigures.machines import game_of, table_moves
from oddfigures.places import writing
from oddfigures.terms import END


def _readings_of(rows):
    """Return what is read of these rows at each place, the lowest one first."""
    length = max([len(row) for row in rows])
    return [tuple([row[-1 - at] if at < len(row) else END for row in rows]) for at in range(length)]


class Machine:
    """A form, a lag and a table for them, by which rows are rewritten."""

    def __init__(self, form, lag, table):
        game = game_of(form, lag)
        moves = table_moves(form, game, table)
        if moves is None:
            raise InvalidTable(table)
        self._form = form
        self._lag = lag
        self._table = {key: table[key] for key in table}
        self._positions = [game.position(spot) for spot in moves]
        self._ends = [game.left_at_end(spot) for spot in moves]
        self._fronts = {}
        numbers = {spot: number for number, spot in enumerate(moves)}
        self._moves = [
            {reading: (written, numbers[other]) for reading, written, other in moves[spot]} for spot in moves
        ]

    @property
    def form(self):
        """The form."""
        return self._form

    @property
    def lag(self):
        """The lag, an integer."""
        return self._lag

    def __eq__(self, other):
        return (
            isinstance(other, Machine)
            and self._form == other._form
            and self._lag == other._lag
            and self._table == other._table
        )

    def __len__(self):
        return len(self._positions)

    def __call__(self, rows):
        check_rows(self._form, rows)
        digits = []
        number = 0
        for reading in _readings_of(rows):
            written, number = self.moves_at(number)[reading]
            if written not in (None, END):
                digits.append(written)
        return self.front_at(number) + tuple(digits[::-1])

    def __rshift__(self, other):
        _check_next(self, self._form.target, other)
        return Chain([self, other])

    def table(self):
        """Return the table, as a new dict."""
        return {key: self._table[key] for key in self._table}

    def positions(self):
        """Return the positions of the table, the first one first, the others in the order in which they come."""
        return list(self._positions)

    def track(self, rows):
        """Give for each place of the rows, the lowest one first, what is read and what is written then."""
        check_rows(self._form, rows)
        number = 0
        for reading in _readings_of(rows):
            written, number = self.moves_at(number)[reading]
            yield reading, written

    def moves_at(self, number):
        """Return for each reading that may follow a position, what is written, if anything, and the next position.

        Positions are told by their numbers in positions().
        """
        return self._moves[number]

    def front_at(self, number):
        """Return the row that is put in front if all rows end at the position with this number."""
        if number not in self._fronts:
            left, right = self._ends[number]
            self._fronts[number] = () if right == END else writing(self._form.target, left, right)
        return self._fronts[number]


class Chain:
    """Machines of which each one gets the row that the one before it writes; made by >> alone."""

    def __init__(self, machines):
        self._machines = list(machines)

    def __eq__(self, other):
        return isinstance(other, Chain) and self._machines == other._machines

    def __len__(self):
        return len(self._machines)

    def __call__(self, rows):
        first = self._machines[0]
        row = first(rows)
        for machine in self._machines[1:]:
            row = machine([row])
        return row

    def __rshift__(self, other):
        _check_next(self, self.writes(), other)
        return Chain(self._machines + [other])

    def machines(self):
        """Return the machines, as a new list."""
        return list(self._machines)

    def writes(self):
        """Return the scheme that the last machine writes."""
        return self._machines[-1].form.target


def _check_machine(value):
    """Raise NotMachine unless any value is a Machine."""
    if not isinstance(value, Machine):
        raise NotMachine(value)


def _check_next(one, target, value):
    """Raise NotMachine or UnlikeForms unless any value is a Machine that reads what one writes: rows of the target."""
    _check_machine(value)
    terms = value.form.terms
    if len(terms) != 1 or terms[0][1] != target:
        raise UnlikeForms(one, value)


def _parted(one, other, node):
    """Tell whether two machines write unlike rows if all rows end here.

    A node has the numbers of their positions, and the digits that only one of them has written yet, lowest first.
    """
    number, number_of_other, ahead, ahead_of_other = node
    row = one.front_at(number) + ahead[::-1]
    return row != other.front_at(number_of_other) + ahead_of_other[::-1]


def _joined(ahead, written):
    """Return the digits that were written, with what is written now."""
    if written in (None, END):
        return ahead
    return ahead + (written,)


def _node_behind(one, other, node, reading):
    """Return the node to which a reading leads."""
    number, number_of_other, ahead, ahead_of_other = node
    written, number = one.moves_at(number)[reading]
    ahead = _joined(ahead, written)
    written, number_of_other = other.moves_at(number_of_other)[reading]
    ahead_of_other = _joined(ahead_of_other, written)
    # Equal digits at the low end do not part the machines any more.
    if ahead and ahead_of_other and ahead[0] == ahead_of_other[0]:
        ahead = ahead[1:]
        ahead_of_other = ahead_of_other[1:]
    return number, number_of_other, ahead, ahead_of_other


def _readings_to(sources, node):
    """Return the readings of the way that led to a node."""
    readings = []
    while sources[node] is not None:
        node, reading = sources[node]
        readings.append(reading)
    return readings[::-1]


def parting_rows(one, other):
    """Return rows for which two machines write unlike rows, the longest as short as possible; None without any."""
    _check_machine(one)
    _check_machine(other)
    if [scheme for _, scheme in one.form.terms] != [scheme for _, scheme in other.form.terms]:
        raise UnlikeForms(one, other)
    nodes = [(0, 0, (), ())]
    sources = {nodes[0]: None}
    passed = 0
    while passed < len(nodes):
        node = nodes[passed]
        passed = passed + 1
        if _parted(one, other, node):
            return rows_read(one.form.terms, _readings_to(sources, node))
        for reading in one.moves_at(node[0]):
            behind = _node_behind(one, other, node, reading)
            if behind not in sources:
                sources[behind] = (node, reading)
                nodes.append(behind)
    return None


def _numbered(marks):
    """Return for each mark a number, equal ones for equal marks, in the order in which they come."""
    numbers = {}
    for mark in marks:
        if mark not in numbers:
            numbers[mark] = len(numbers)
    return [numbers[mark] for mark in marks]


def classes(machine):
    """Return the classes of positions from which a machine goes on in the same way, as lists of their numbers."""
    _check_machine(machine)
    every = list(range(len(machine)))
    moves = [machine.moves_at(number) for number in every]
    labels = _numbered([
        (machine.front_at(number), tuple([(reading, moves[number][reading][0]) for reading in moves[number]]))
        for number in every
    ])
    many = 0
    while many < len(set(labels)):
        many = len(set(labels))
        labels = _numbered([
            (labels[number], tuple([labels[moves[number][reading][1]] for reading in moves[number]]))
            for number in every
        ])
    found = [[] for _ in range(many)]
    for number in every:
        found[labels[number]].append(number)
    return found
