"""Places and steps, and which numbers a scheme writes, with rows or closed lists to show it."""

from oddfigures.digits import is_whole
from oddfigures.errors import InvalidNumber, NotScheme, UnknownDigit
from oddfigures.paths import first_rows, follower, left_digits, place_graph, places_behind
from oddfigures.schemes import Scheme


def is_scheme(value):
    """Tell whether any value is a Scheme."""
    return isinstance(value, Scheme)


def check_scheme(value):
    """Raise NotScheme unless any value is a Scheme."""
    if not is_scheme(value):
        raise NotScheme(value)


def check_number(value):
    """Raise InvalidNumber unless any value is an integer."""
    if not is_whole(value):
        raise InvalidNumber(value)


def is_right(scheme, value):
    """Tell whether any value may be the second item of a place: None or a digit of the scheme."""
    return value is None or scheme.allows(value, None)


def is_place(scheme, value):
    """Tell whether any value is a place of the scheme."""
    return isinstance(value, tuple) and len(value) == 2 and is_whole(value[0]) and is_right(scheme, value[1])


def _check_place(scheme, rest, right):
    """Raise the error of the first of these that is not as it should be."""
    check_scheme(scheme)
    check_number(rest)
    if not is_right(scheme, right):
        raise UnknownDigit(right)


def _layers_to_zero(scheme, start):
    """Return the places by their distance from the start, up to the first with the rest 0; None if there are none."""
    follow = follower(scheme)
    seen = {start: True}
    layers = [{start: [()]}]
    while not _zeros(layers[-1]):
        further = {}
        for place in layers[-1]:
            for other in follow(place):
                if other not in seen:
                    seen[other] = True
                    further[other] = True
        if not further:
            return None
        layers.append(further)
    return layers


def _zeros(places):
    """Return those of the places whose rest is 0."""
    return [place for place in places if place[0] == 0]


def core(scheme):
    """Return the greatest absolute value of a rest that steps need not make smaller."""
    check_scheme(scheme)
    return max([abs(digit) for digit in scheme.digits]) // (abs(scheme.base) - 1)


def steps(scheme, rest, right=None):
    """Return the places to which steps lead from (rest, right), in ascending order of their digits."""
    _check_place(scheme, rest, right)
    return places_behind(scheme.base, left_digits(scheme, right), rest)


def is_written(scheme, number, right=None):
    """Tell whether the number can be written directly to the left of right, or of nothing."""
    _check_place(scheme, number, right)
    return _layers_to_zero(scheme, (number, right)) is not None


def writing(scheme, number, right=None):
    """Return the shortest row with this value that may stand left of right, the first of several; None without one."""
    _check_place(scheme, number, right)
    layers = _layers_to_zero(scheme, (number, right))
    if layers is None:
        return None
    return first_rows(scheme, layers, _zeros(layers[-1]), 1)[0]


def closed_list(scheme, number, right=None):
    """Return a list that is closed for (number, right), or None if the place is open."""
    _check_place(scheme, number, right)
    places = list(place_graph(scheme, [(number, right)]))
    if _zeros(places):
        return None
    return places


def is_closed_list(scheme, number, value, right=None):
    """Tell whether any value is a list that is closed for (number, right)."""
    _check_place(scheme, number, right)
    if not isinstance(value, (list, tuple)) or not all([is_place(scheme, item) for item in value]):
        return False
    follow = follower(scheme)
    listed = {place: True for place in value}
    if (number, right) not in listed or _zeros(listed):
        return False
    return all([other in listed for place in listed for other in follow(place)])
