"""Prices of digits: which plain row of a number is the cheapest, with amounts that show that none is cheaper."""

from heapq import heappop, heappush

from oddfigures.counts import is_plain_row_of
from oddfigures.digits import is_integer, is_whole
from oddfigures.errors import InvalidPrices, InvalidRow
from oddfigures.paths import is_end, place_graph, turned
from oddfigures.places import check_number, check_scheme, is_place

GREATEST_PRICE = 1000


def _check_prices(scheme, value):
    """Raise InvalidPrices unless any value is a dict of prices for just the digits of the scheme."""
    if not isinstance(value, dict) or len(value) != len(scheme):
        raise InvalidPrices(value)
    for digit, price in value.items():
        if not scheme.allows(digit, None) or not is_integer(price, 0, GREATEST_PRICE):
            raise InvalidPrices(value)


def _sum_of_prices(row, prices):
    """Return the sum of the prices of the digits of a row."""
    return sum([prices[digit] for digit in row])


def price_of(scheme, row, prices):
    """Return the price of a row."""
    check_scheme(scheme)
    if row not in scheme:
        raise InvalidRow(row)
    _check_prices(scheme, prices)
    return _sum_of_prices(row, prices)


def _cheapest_ways(graph, prices):
    """Return the places from which plain rows end, with the price of the cheapest way, and where it leads next."""
    sources = turned(graph)
    amounts = {place: 0 for place in graph if is_end(place)}
    onward = {}
    queue = []
    for place in amounts:
        if sources[place]:
            heappush(queue, (0, place))
    while queue:
        amount, place = heappop(queue)
        if amount > amounts[place]:
            continue
        longer = amount + prices[place[1]]
        for source in sources[place]:
            if source not in amounts or longer < amounts[source]:
                amounts[source] = longer
                onward[source] = place
                # The first place is never queued, so that its None is not compared with a digit.
                if sources[source]:
                    heappush(queue, (longer, source))
    return amounts, onward


def cheapest(scheme, number, prices):
    """Return the lowest price of a plain row with this value and such a row, or None if there is no row."""
    check_scheme(scheme)
    check_number(number)
    _check_prices(scheme, prices)
    start = (number, None)
    amounts, onward = _cheapest_ways(place_graph(scheme, [start]), prices)
    if start not in amounts:
        return None
    digits = []
    place = start
    while place in onward:
        place = onward[place]
        digits.append(place[1])
    return amounts[start], tuple(digits[::-1])


def potentials(scheme, number, prices):
    """Return a list of places with amounts that shows what the cheapest row costs, or None if there is no row."""
    check_scheme(scheme)
    check_number(number)
    _check_prices(scheme, prices)
    graph = place_graph(scheme, [(number, None)])
    amounts, _ = _cheapest_ways(graph, prices)
    if (number, None) not in amounts:
        return None
    # Places that cost more, or from which no row ends, need no amount above that of the first place.
    most = amounts[(number, None)]
    return [(place, min(amounts.get(place, most), most)) for place in graph]


def _is_amount(scheme, value):
    """Tell whether any value is a tuple of a place of the scheme and an integer from 0 on."""
    if not isinstance(value, tuple) or len(value) != 2:
        return False
    place, amount = value
    return is_place(scheme, place) and is_whole(amount) and amount >= 0


def _are_potentials(graph, prices, amounts):
    """Tell whether no amount is greater than what the steps from its place and the ends of rows allow."""
    if any([amounts[place] != 0 for place in graph if is_end(place)]):
        return False
    return all([
        amounts[place] <= prices[other[1]] + amounts[other] for place in graph for other in graph[place]
    ])


def is_cheapest(scheme, number, prices, row, amounts):
    """Tell whether any values are a plain row with this value, and amounts that show that none is cheaper."""
    check_scheme(scheme)
    check_number(number)
    _check_prices(scheme, prices)
    if not is_plain_row_of(scheme, number, row):
        return False
    if not isinstance(amounts, (list, tuple)) or not all([_is_amount(scheme, item) for item in amounts]):
        return False
    listed = {place: amount for place, amount in amounts}
    if listed.get((number, None)) != _sum_of_prices(row, prices):
        return False
    graph = place_graph(scheme, [(number, None)])
    if len(listed) < len(amounts) or len(listed) != len(graph) or not all([place in listed for place in graph]):
        return False
    return _are_potentials(graph, prices, listed)
