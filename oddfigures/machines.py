"""Machines: tables by which rows are rewritten from their low ends with a lag, or refuters that defeat every table."""

from oddfigures.digits import is_integer, is_whole
from oddfigures.errors import InvalidLag
from oddfigures.forms import check_form
from oddfigures.games import Game
from oddfigures.terms import is_item, is_reading

# The greatest lag of a form with so many terms.
GREATEST_LAGS = {1: 2, 2: 1}


def game_of(form, lag):
    """Return the game of a form for a lag, if they are such."""
    check_form(form)
    if not is_integer(lag, 0, GREATEST_LAGS[len(form.terms)]):
        raise InvalidLag(lag)
    return Game(form, lag)


def _branches(game):
    """Return for each spot that can be reached the readings that may follow, each with the spots it may lead to."""
    branches = {}
    stack = [game.first()]
    while stack:
        spot = stack.pop()
        if spot in branches:
            continue
        branches[spot] = []
        # A machine must not come to a spot that cannot end, so what lies behind it does not matter.
        if game.can_end(spot):
            branches[spot] = [(turn[0], game.spots_behind(spot, turn)) for turn in game.turns(spot)]
            for _, behind in branches[spot]:
                stack.extend(behind)
    return branches


def _lost_spots(game):
    """Return the spots at which readings defeat every table, each with a rank and the next one of these readings."""
    branches = _branches(game)
    lost = {spot: (0, None) for spot in branches if not game.can_end(spot)}
    # How many of the spots behind a reading are not known to be lost, and which readings lead to a spot.
    waiting = {}
    sources = {spot: [] for spot in branches}
    for spot in branches:
        for reading, behind in branches[spot]:
            waiting[spot, reading] = len(behind)
            for other in behind:
                sources[other].append((spot, reading))
            if not behind:
                lost[spot] = (0, reading)
    stack = list(lost)
    while stack:
        found = stack.pop()
        for spot, reading in sources[found]:
            waiting[spot, reading] -= 1
            if waiting[spot, reading] == 0 and spot not in lost:
                # All spots behind the reading have been counted before, so that their ranks are lower.
                lost[spot] = (len(lost), reading)
                stack.append(spot)
    return lost


def table(form, lag):
    """Return a table of the form for the lag, or None if there is none."""
    game = game_of(form, lag)
    lost = _lost_spots(game)
    first = game.first()
    if first in lost:
        return None
    found = {}
    seen = {first: True}
    stack = [first]
    while stack:
        spot = stack.pop()
        for turn in game.turns(spot):
            kept = [other for other in game.spots_behind(spot, turn) if other not in lost]
            chosen = kept[0]
            if turn[1] is not None:
                found[game.position(spot), turn[0]] = chosen[2]
            if chosen not in seen:
                seen[chosen] = True
                stack.append(chosen)
    return found


def _is_key(form, game, value):
    """Tell whether any value is a tuple of a position and a reading, whether or not it can be reached."""
    if not isinstance(value, tuple) or len(value) != 2:
        return False
    return game.is_position(value[0]) and is_reading(form.terms, value[1])


def _spot_chosen(form, game, value, spot, turn):
    """Return the spot to which a turn leads with what a dict says of it, or None if the dict says nothing right."""
    behind = game.spots_behind(spot, turn)
    if turn[1] is None:
        return behind[0]
    written = value.get((game.position(spot), turn[0]))
    for other in behind:
        if is_item(form.target, written) and written == other[2]:
            return other
    return None


def _moves_at(form, game, value, spot):
    """Return for each reading that may follow it, what a dict writes and the next spot; None if that is not right."""
    if not game.can_end(spot):
        return None
    moves = []
    for turn in game.turns(spot):
        chosen = _spot_chosen(form, game, value, spot, turn)
        if chosen is None:
            return None
        # As long as nothing is written, what stands right is None.
        moves.append((turn[0], chosen[2], chosen))
    return moves


def table_moves(form, game, value):
    """Return the spots of a table in order, each with (reading, written, next spot); None if any value is no table."""
    if not isinstance(value, dict) or not all([_is_key(form, game, key) for key in value]):
        return None
    spots = [game.first()]
    listed = {spots[0]: True}
    moves = {}
    many = 0
    while len(moves) < len(spots):
        spot = spots[len(moves)]
        found = _moves_at(form, game, value, spot)
        if found is None:
            return None
        moves[spot] = found
        for _, written, other in found:
            if written is not None:
                many = many + 1
            if other not in listed:
                listed[other] = True
                spots.append(other)
    # A key that was not asked for is one too many.
    if many < len(value):
        return None
    return moves


def is_table(form, lag, value):
    """Tell whether any value is a table of the form for the lag."""
    return table_moves(form, game_of(form, lag), value) is not None


def least_lag(form):
    """Return the least lag of the form for which there is a table, or None if there is none."""
    check_form(form)
    for lag in range(GREATEST_LAGS[len(form.terms)] + 1):
        if table(form, lag) is not None:
            return lag
    return None


def _behind_reading(game, spot, reading):
    """Return the spots to which a reading leads with all that may be written; None if it may not follow."""
    for turn in game.turns(spot):
        if turn[0] == reading:
            return game.spots_behind(spot, turn)
    return None


def refuter(form, lag):
    """Return a list of positions with readings that defeat every table, or None if there is a table."""
    game = game_of(form, lag)
    lost = _lost_spots(game)
    first = game.first()
    if first not in lost:
        return None
    found = []
    seen = {first: True}
    stack = [first]
    while stack:
        spot = stack.pop()
        rank, reading = lost[spot]
        found.append((game.position(spot), rank, reading))
        if reading is not None:
            behind = [other for other in _behind_reading(game, spot, reading) if other not in seen]
            seen.update({other: True for other in behind})
            stack.extend(behind)
    return found


def _is_refuter_item(form, game, value):
    """Tell whether any value is a tuple of a position, an integer, and a reading or None."""
    if not isinstance(value, tuple) or len(value) != 3:
        return False
    position, rank, reading = value
    return game.is_position(position) and is_whole(rank) and (reading is None or is_reading(form.terms, reading))


def _is_refuted(game, ranks, position, reading):
    """Tell whether a position cannot end, or its reading leads to positions with lower ranks alone."""
    spot = game.spot(position)
    if reading is None:
        return not game.can_end(spot)
    behind = _behind_reading(game, spot, reading)
    if behind is None:
        return False
    later = [game.position(other) for other in behind]
    return all([other in ranks and ranks[other] < ranks[position] for other in later])


def is_refuter(form, lag, value):
    """Tell whether any value is a list of positions with readings that defeat every table."""
    game = game_of(form, lag)
    if not isinstance(value, (list, tuple)) or not all([_is_refuter_item(form, game, item) for item in value]):
        return False
    ranks = {position: rank for position, rank, _ in value}
    if len(ranks) < len(value) or game.position(game.first()) not in ranks:
        return False
    return all([_is_refuted(game, ranks, position, reading) for position, _, reading in value])
