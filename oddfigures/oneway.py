"""Whether some number has two plain rows: two such rows, or a paper that shows that there are none."""

from oddfigures.digits import is_whole
from oddfigures.paths import all_left_digits, graph_from, live_graph, place_graph, places_behind, way
from oddfigures.places import check_scheme, is_right

FIRST = (False, 0, None, None)
# Stands for the digits of a row that has no more, while the other row is still read.
END = "end"


def _differences_behind(base, lefts, difference):
    """Return the differences to which steps by a digit of each row lead."""
    unlike, left, one, other = difference
    return [
        (unlike or x != y, (left - x + y) // base, x, y)
        for x in lefts[one] for y in lefts[other] if (left - x + y) % base == 0
    ]


def _ended_behind(base, lefts, difference):
    """Return to what digits of the first row lead while the second row has ended."""
    _, left, one, other = difference
    # A plain row does not end with 0 in front.
    if other == 0:
        return []
    return [(True, rest, digit, END) for rest, digit in places_behind(base, lefts[one], left)]


def _graph_of_two(scheme):
    """Return all differences, also those with a second row that has ended, each with those one step further."""
    base = scheme.base
    lefts = all_left_digits(scheme)
    lefts[END] = []
    return graph_from(
        [FIRST],
        lambda difference: _differences_behind(base, lefts, difference) + _ended_behind(base, lefts, difference),
    )


def _is_double(difference):
    """Tell whether two unlike plain rows may both end here."""
    unlike, left, one, other = difference
    return unlike and left == 0 and one != 0 and other != 0


def two_rows(scheme):
    """Return two unlike plain rows with one value, the longer one as short as possible, or None if there are none."""
    check_scheme(scheme)
    graph = _graph_of_two(scheme)
    doubles = {difference: True for difference in graph if _is_double(difference)}
    # Two rows may change places, so it is enough that the first one is never the shorter one.
    differences = way(graph, FIRST, doubles)
    if differences is None:
        return None
    highest_first = differences[:0:-1]
    longer = tuple([one for _, _, one, _ in highest_first])
    shorter = tuple([other for _, _, _, other in highest_first if other != END])
    return longer, shorter


def one_way(scheme):
    """Tell whether no number has two plain rows."""
    return two_rows(scheme) is None


def difference_paper(scheme):
    """Return a list of differences that shows that no number has two plain rows, or None if one has."""
    if two_rows(scheme) is not None:
        return None
    base = scheme.base
    lefts = all_left_digits(scheme)
    return list(graph_from([FIRST], lambda difference: _differences_behind(base, lefts, difference)))


def _is_difference(scheme, value):
    """Tell whether any value is a tuple of the kind of differences."""
    if not isinstance(value, tuple) or len(value) != 4:
        return False
    unlike, left, one, other = value
    return isinstance(unlike, bool) and is_whole(left) and is_right(scheme, one) and is_right(scheme, other)


def _is_closed(scheme, listed):
    """Tell whether each step from a listed difference leads to a listed one."""
    base = scheme.base
    lefts = all_left_digits(scheme)
    return all([other in listed for item in listed for other in _differences_behind(base, lefts, item)])


def _have_longer_rows(scheme, differences):
    """Tell whether from any of the differences one row may go on alone and become another row with the same value."""
    starts = [(left, one) for _, left, one, other in differences if other != 0]
    starts.extend([(-left, other) for _, left, one, other in differences if one != 0])
    graph = place_graph(scheme, starts)
    live = live_graph(graph)
    return any([other in live for start in starts for other in graph[start]])


def is_difference_paper(scheme, value):
    """Tell whether any value is a list of differences that shows that no number has two plain rows."""
    check_scheme(scheme)
    if not isinstance(value, (list, tuple)) or not all([_is_difference(scheme, item) for item in value]):
        return False
    listed = {item: True for item in value}
    if len(listed) < len(value) or FIRST not in listed or not _is_closed(scheme, listed):
        return False
    if any([_is_double(item) for item in listed]):
        return False
    return not _have_longer_rows(scheme, value)
