"""Fractions: endless rows of digits behind the point that have a ratio as their value, or why there are none."""

from math import gcd

from oddfigures.digits import is_integer, is_whole
from oddfigures.errors import InvalidRatio, InvalidRow
from oddfigures.paths import graph_from, turned, untangled
from oddfigures.places import check_scheme, is_place

GREATEST_TOP = 1200
GREATEST_BOTTOM = 60


def _power(base, exponent):
    """Return base times itself, so many times."""
    power = 1
    for _ in range(exponent):
        power = power * base
    return power


def _lowest(top, bottom):
    """Return two integers with the same ratio in lowest terms, the bottom from 1 on."""
    common = gcd(top, bottom)
    if bottom < 0:
        common = -common
    return top // common, bottom // common


def fraction_of(scheme, front, ring):
    """Return the value of the endless row that begins with the front and then repeats the ring, as (top, bottom)."""
    check_scheme(scheme)
    if front not in scheme:
        raise InvalidRow(front)
    if ring not in scheme or ring == () or front + ring + ring not in scheme:
        raise InvalidRow(ring)
    # Each ring is worth what the next one is, times base for each of its digits.
    around = _power(scheme.base, len(ring)) - 1
    top = scheme.value_of(front) * around + scheme.value_of(ring)
    return _lowest(top, _power(scheme.base, len(front)) * around)


def _ratio(scheme, top, bottom):
    """Return a ratio in lowest terms, if it is one and the scheme is one."""
    check_scheme(scheme)
    if not is_integer(top, -GREATEST_TOP, GREATEST_TOP) or not is_integer(bottom, 1, GREATEST_BOTTOM):
        raise InvalidRatio(top, bottom)
    return _lowest(top, bottom)


def _is_far(scheme, bottom, point):
    """Tell whether no digits can make up for what is left at a point."""
    greatest = max([abs(digit) for digit in scheme.digits])
    return (abs(scheme.base) - 1) * abs(point[0]) > bottom * greatest


def _near_points(scheme, bottom, points):
    """Return those of the points that are not far."""
    return [point for point in points if not _is_far(scheme, bottom, point)]


def _points_behind(scheme, bottom, point):
    """Return the points to which steps lead and that are not far, in ascending order of their digits."""
    rest, left = point
    digits = [digit for digit in scheme.digits if left is None or scheme.allows(left, digit)]
    return _near_points(scheme, bottom, [(scheme.base * rest - bottom * digit, digit) for digit in digits])


def _point_graph(scheme, top, bottom):
    """Return the points that are reached and not far, each with those one step further."""
    starts = _near_points(scheme, bottom, [(top, None)])
    return graph_from(starts, lambda point: _points_behind(scheme, bottom, point))


def _dead_points(graph):
    """Return the points from which no endless row goes on, so that each stands behind all that it leads to."""
    return untangled(turned(graph))


def _live_graph(scheme, top, bottom):
    """Return the points that endless rows with this value pass, each with those one step further."""
    graph = _point_graph(scheme, top, bottom)
    dead = {point: True for point in _dead_points(graph)}
    return {point: [other for other in graph[point] if other not in dead] for point in graph if point not in dead}


def endless_row(scheme, top, bottom):
    """Return the front and the ring of an endless row with the value top / bottom, or None if there is none."""
    top, bottom = _ratio(scheme, top, bottom)
    live = _live_graph(scheme, top, bottom)
    point = (top, None)
    if point not in live:
        return None
    digits = []
    # How many digits had been read when a point was passed.
    passed = {}
    while point not in passed:
        passed[point] = len(digits)
        point = live[point][0]
        digits.append(point[1])
    return tuple(digits[:passed[point]]), tuple(digits[passed[point]:])


def endless_count(scheme, top, bottom):
    """Return how many endless rows have the value top / bottom, or None if they are infinitely many."""
    top, bottom = _ratio(scheme, top, bottom)
    live = _live_graph(scheme, top, bottom)
    if (top, None) not in live:
        return 0
    ways = {point: 0 for point in live}
    ways[(top, None)] = 1
    turning = {point: True for point in live}
    for point in untangled(live):
        del turning[point]
        for other in live[point]:
            ways[other] += ways[point]
    # Where a row may go round, and leave or go round in another way, it may do so after any number of times.
    if any([len(live[point]) > 1 for point in turning]):
        return None
    return sum([ways[point] for point in turning])


def why_none(scheme, top, bottom):
    """Return a list of points with ranks that shows that no endless row has this value, or None if one has."""
    top, bottom = _ratio(scheme, top, bottom)
    graph = _point_graph(scheme, top, bottom)
    dead = _dead_points(graph)
    if len(dead) < len(graph):
        return None
    return [(point, rank) for rank, point in enumerate(dead)]


def _is_ranked_point(scheme, value):
    """Tell whether any value is a tuple of a point of the scheme and an integer."""
    return isinstance(value, tuple) and len(value) == 2 and is_place(scheme, value[0]) and is_whole(value[1])


def is_why_none(scheme, top, bottom, value):
    """Tell whether any value is a list of points with ranks that shows that no endless row has this value."""
    top, bottom = _ratio(scheme, top, bottom)
    if not isinstance(value, (list, tuple)) or not all([_is_ranked_point(scheme, item) for item in value]):
        return False
    ranks = {point: rank for point, rank in value}
    if len(ranks) < len(value) or not all([point in ranks for point in _near_points(scheme, bottom, [(top, None)])]):
        return False
    return all([
        other in ranks and ranks[other] < rank
        for point, rank in value for other in _points_behind(scheme, bottom, point)
    ])
