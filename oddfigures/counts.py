"""How many rows a scheme has: of one length, or plain ones with one value; and loops, where these do not end."""

from oddfigures.digits import is_integer
from oddfigures.errors import InvalidLength
from oddfigures.paths import first_rows, is_end, live_graph, place_graph, untangled, way
from oddfigures.places import check_number, check_scheme

GREATEST_LENGTH = 1000
MANY_LAYERS = 64
FEW_ROWS = 10


def _check_length(value):
    """Raise InvalidLength unless any value is an integer from 0 to 1000."""
    if not is_integer(value, 0, GREATEST_LENGTH):
        raise InvalidLength(value)


def _plain_graph(scheme, number):
    """Return the places on the ways to all plain rows with this value, each with those one step further."""
    return live_graph(place_graph(scheme, [(number, None)]))


def row_count(scheme, length):
    """Return how many rows of the scheme have so many digits."""
    check_scheme(scheme)
    _check_length(length)
    # How many rows there are for each first digit; None stands for that of the empty row.
    counts = {None: 1}
    for _ in range(length):
        counts = {
            digit: sum([counts[right] for right in counts if scheme.allows(digit, right)]) for digit in scheme.digits
        }
    return sum(counts.values())


def greatest(scheme, length):
    """Return the greatest value of the rows with so many digits, or None if there are none."""
    check_scheme(scheme)
    _check_length(length)
    # The greatest value for each first digit that a row has; None stands for that of the empty row.
    best = {None: 0}
    power = 1
    for _ in range(length):
        longer = {}
        for digit in scheme.digits:
            behind = [best[right] for right in best if scheme.allows(digit, right)]
            if behind:
                longer[digit] = digit * power + max(behind)
        best = longer
        power = power * scheme.base
    return max(best.values(), default=None)


def least(scheme, length):
    """Return the least value of the rows with so many digits, or None if there are none."""
    check_scheme(scheme)
    value = greatest(-scheme, length)
    if value is None:
        return None
    return -value


def plain_count(scheme, number):
    """Return how many plain rows have this value, or None if they are infinitely many."""
    check_scheme(scheme)
    check_number(number)
    graph = _plain_graph(scheme, number)
    ordered = untangled(graph)
    if len(ordered) < len(graph):
        return None
    ways = {place: 0 for place in graph}
    ways[(number, None)] = 1
    for place in ordered:
        for other in graph[place]:
            ways[other] += ways[place]
    return sum([ways[place] for place in graph if is_end(place)])


def _gathered(scheme, layers):
    """Return the last layer alone, with the rows that lead to its places, or all layers if these rows are many."""
    last = {}
    for place in layers[-1]:
        last[place] = first_rows(scheme, layers, [place], FEW_ROWS + 1)
        if len(last[place]) > FEW_ROWS:
            return layers
    return [last]


def plain_rows(scheme, number, most):
    """Return the first so many plain rows with this value, the shorter ones first."""
    check_scheme(scheme)
    check_number(number)
    _check_length(most)
    graph = _plain_graph(scheme, number)
    # All places that so many steps lead to; the graph lacks the start if there are no plain rows.
    layers = [{place: [()] for place in [(number, None)] if place in graph}]
    rows = []
    while layers[-1] and len(rows) < most:
        ends = [place for place in layers[-1] if is_end(place)]
        if ends:
            rows.extend(first_rows(scheme, layers, ends, most - len(rows)))
        layers.append({other: True for place in layers[-1] for other in graph[place]})
        # A thousand rows may have a thousand unlike lengths: each is not to be walked through from end to end.
        if len(layers) % MANY_LAYERS == 0:
            layers = _gathered(scheme, layers)
    return rows


def _row_between(graph, start, goals):
    """Return the digits of the steps of a shortest way to one of the goals, that of the last step first, or None."""
    places = way(graph, start, goals)
    if places is None:
        return None
    return tuple([right for _, right in places[:0:-1]])


def _middle(graph, place):
    """Return the digits of the steps of a way from a place back to itself, that of the last step first, or None."""
    for other in graph[place]:
        row = _row_between(graph, other, {place: True})
        if row is not None:
            return row + (other[1],)
    return None


def loop(scheme, number):
    """Return a loop of the number, or None if it has only finitely many plain rows."""
    check_scheme(scheme)
    check_number(number)
    graph = _plain_graph(scheme, number)
    free = {place: True for place in untangled(graph)}
    ends = {place: True for place in graph if is_end(place)}
    for place in graph:
        middle = None if place in free else _middle(graph, place)
        if middle is not None:
            front = _row_between(graph, place, ends)
            back = _row_between(graph, (number, None), {place: True})
            return front, middle, back
    return None


def is_plain_row_of(scheme, number, row):
    """Tell whether any value is a plain row of the scheme with this value."""
    return row in scheme and (row == () or row[0] != 0) and scheme.value_of(row) == number


def is_loop(scheme, number, value):
    """Tell whether any value is a loop of the number."""
    check_scheme(scheme)
    check_number(number)
    if not isinstance(value, tuple) or len(value) != 3 or not all([isinstance(item, tuple) for item in value]):
        return False
    front, middle, back = value
    if middle == ():
        return False
    # If no and one middle give the number, any number of them does; two show that a middle may stand beside itself.
    return all([is_plain_row_of(scheme, number, front + middle * times + back) for times in range(3)])
