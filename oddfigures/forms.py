"""Forms: sums of multiples of written numbers, and whether a scheme writes all their values."""

from oddfigures.digits import is_integer
from oddfigures.errors import InvalidLength, InvalidReading, InvalidRows, InvalidState, NotForm, TooMany, UnlikeBases
from oddfigures.pairs import Carries
from oddfigures.places import check_scheme, is_scheme
from oddfigures.states import StateGraph, is_state_like
from oddfigures.terms import END, check_terms, may_follow, readings_behind

MOST_STATES = 2000


class Form:
    """One or two terms (factor, scheme), and a scheme as the target that is to write their sum."""

    def __init__(self, terms, target):
        check_terms(terms, is_scheme)
        check_scheme(target)
        for _, scheme in terms:
            if abs(scheme.base) != abs(target.base):
                raise UnlikeBases(scheme.base)
        self._terms = tuple(terms)
        self._target = target
        self._graph = StateGraph(self._terms, target)

    @property
    def terms(self):
        """The terms, a tuple of tuples (factor, scheme)."""
        return self._terms

    @property
    def target(self):
        """The scheme that is to write the values."""
        return self._target

    def __eq__(self, other):
        return isinstance(other, Form) and self._terms == other._terms and self._target == other._target

    def value_of(self, rows):
        """Return the value of the form for a list with a row for each term."""
        check_rows(self, rows)
        return sum([factor * scheme.value_of(row) for (factor, scheme), row in zip(self._terms, rows)])

    def start(self):
        """Return the first state."""
        return self._graph.state_at(0)

    def readings(self, state):
        """Return the readings that may follow a state, in order."""
        self._check_state(state)
        return readings_behind(self._terms, state[0])

    def after(self, state, reading):
        """Return the state behind a reading."""
        self._check_state(state)
        if not may_follow(self._terms, state[0], reading):
            raise InvalidReading(reading)
        return self._graph.state_behind(state, reading)

    def _check_state(self, value):
        """Raise InvalidState unless any value is a state of the form."""
        if not self._graph.has_state(value):
            raise InvalidState(value)

    def graph(self):
        """Return the states as far as they were found."""
        return self._graph


def check_form(value):
    """Raise NotForm unless any value is a Form."""
    if not isinstance(value, Form):
        raise NotForm(value)


def check_rows(form, value):
    """Raise InvalidRows unless any value is a list with a row for each term of the form."""
    if not isinstance(value, (list, tuple)) or len(value) != len(form.terms):
        raise InvalidRows(value)
    if not all([row in scheme for (_, scheme), row in zip(form.terms, value)]):
        raise InvalidRows(value)


def rows_read(terms, readings):
    """Return the rows of these terms that were read, as a tuple."""
    columns = [[reading[at] for reading in readings] for at in range(len(terms))]
    return tuple([tuple([item for item in column[::-1] if item != END]) for column in columns])


def state_count(form, most=MOST_STATES):
    """Return how many states the form has; raise TooMany if there are more than the most."""
    check_form(form)
    if not is_integer(most, 1, MOST_STATES):
        raise InvalidLength(most)
    graph = form.graph()
    if graph.has(most):
        raise TooMany(most)
    return graph.how_many()


def _first_failing(form):
    """Return the number of the first state without an open pair, or None if there is none."""
    graph = form.graph()
    number = 0
    while graph.has(number):
        if graph.is_failing(number):
            return number
        number = number + 1
    return None


def always_written(form):
    """Tell whether the target writes the values of the form for all rows."""
    check_form(form)
    return _first_failing(form) is None


def paper(form):
    """Return a list of states that shows that the form is always written, or None if it is not."""
    check_form(form)
    if _first_failing(form) is not None:
        return None
    graph = form.graph()
    return [graph.state_at(number) for number in range(graph.how_many())]


def failing(form):
    """Return rows whose value the target does not write, the longest as short as possible, or None without any."""
    check_form(form)
    number = _first_failing(form)
    if number is None:
        return None
    return rows_read(form.terms, form.graph().readings_to(number))


def _filed(carries, items):
    """Return the carries of items by their lasts and signs and by one of their pairs, or None if one has none open."""
    filed = {}
    for lasts, signs, pairs in items:
        bits = carries.bits_of(pairs)
        if not carries.has_open(bits):
            return None
        filed.setdefault((lasts, signs), {}).setdefault(carries.last_pair(bits), {})[bits] = True
    return filed


def _has_part(carries, sets, bits):
    """Tell whether one of the filed sets is among the pairs that the bits stand for."""
    for pair in carries.pairs_of(bits):
        candidates = sets.get(pair, {})
        if bits in candidates:
            return True
        for other in candidates:
            if other & ~bits == 0:
                return True
    return False


def is_paper(form, value):
    """Tell whether any value is a list that shows that the form is always written."""
    check_form(form)
    if not isinstance(value, (list, tuple)) or len(value) == 0:
        return False
    if not all([is_state_like(form.terms, form.target, item) for item in value]) or value[0] != form.start():
        return False
    carries = Carries(form.target)
    filed = _filed(carries, value)
    if filed is None:
        return False
    for lasts, signs, pairs in value:
        bits = carries.bits_of(pairs)
        for reading, total, later_signs in form.graph().turns(lasts, signs):
            if not _has_part(carries, filed.get((reading, later_signs), {}), carries.behind(bits, total)):
                return False
    return True
