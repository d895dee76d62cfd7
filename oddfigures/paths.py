"""Steps from place to place, and what can be reached by them: what every search for rows goes through."""


def left_digits(scheme, right):
    """Return the digits that may stand left of a digit, or of nothing, in ascending order."""
    return [digit for digit in scheme.digits if scheme.allows(digit, right)]


def all_left_digits(scheme):
    """Return the digits that may stand left of it for None and for each digit."""
    return {right: left_digits(scheme, right) for right in (None,) + scheme.digits}


def places_behind(base, digits, rest):
    """Return the places to which steps by these digits lead from a place with this rest."""
    return [((rest - digit) // base, digit) for digit in digits if (rest - digit) % base == 0]


def follower(scheme):
    """Return a function that gives the places to which steps lead from a place."""
    base = scheme.base
    lefts = all_left_digits(scheme)
    return lambda place: places_behind(base, lefts[place[1]], place[0])


class OpenPlaces:
    """Tells which places of a scheme are open, and keeps what it has found out."""

    def __init__(self, scheme):
        self._base = scheme.base
        self._lefts = all_left_digits(scheme)
        self._known = {}

    def behind(self, place):
        """Return the places to which steps lead from a place."""
        rest, right = place
        return places_behind(self._base, self._lefts[right], rest)

    def is_open(self, place):
        """Tell whether steps, or none, lead from a place to one with the rest 0."""
        if place not in self._known:
            self._find_out(place)
        return self._known[place]

    def _find_out(self, start):
        """Find out about a place, and about all that is reached from it."""
        known = self._known
        graph = graph_from([start], lambda place: [] if place in known else self.behind(place))
        goals = [place for place in graph if place[0] == 0 or known.get(place, False)]
        sources = turned(graph)
        found = graph_from(goals, lambda place: sources[place])
        for place in graph:
            known[place] = place in found


def is_end(place):
    """Tell whether a plain row may end at a place: nothing is left, and no 0 stands in front."""
    rest, right = place
    return rest == 0 and right != 0


def graph_from(starts, follow):
    """Return the starts and all that is reached from them, each with what directly follows it."""
    graph = {}
    stack = list(starts)
    while stack:
        node = stack.pop()
        if node not in graph:
            graph[node] = follow(node)
            stack.extend(graph[node])
    return graph


def place_graph(scheme, starts):
    """Return some places and all that steps lead to, each with the places one step further."""
    return graph_from(starts, follower(scheme))


def turned(graph):
    """Return the nodes of a graph, each with those that it directly follows."""
    sources = {node: [] for node in graph}
    for node in graph:
        for other in graph[node]:
            sources[other].append(node)
    return sources


def live_graph(graph):
    """Return the part of a graph of places from which steps lead to the end of a plain row."""
    ends = [place for place in graph if is_end(place)]
    sources = turned(graph)
    live = graph_from(ends, lambda place: sources[place])
    return {place: [other for other in graph[place] if other in live] for place in live}


def untangled(graph):
    """Return nodes so that each stands behind all that it follows; those on or behind a cycle are left out."""
    waiting = {node: 0 for node in graph}
    for node in graph:
        for other in graph[node]:
            waiting[other] += 1
    stack = [node for node in graph if waiting[node] == 0]
    ordered = []
    while stack:
        node = stack.pop()
        ordered.append(node)
        for other in graph[node]:
            waiting[other] -= 1
            if waiting[other] == 0:
                stack.append(other)
    return ordered


def way(graph, start, goals):
    """Return the nodes of a shortest way from the start to one of the goals, both included; None if there is none."""
    previous = {start: None}
    layer = [start]
    while layer:
        for node in layer:
            if node in goals:
                return _way_back(previous, node)
        further = []
        for node in layer:
            for other in graph[node]:
                if other not in previous:
                    previous[other] = node
                    further.append(other)
        layer = further
    return None


def _way_back(previous, node):
    """Return the nodes that lead to this one, itself last."""
    nodes = []
    while node is not None:
        nodes.append(node)
        node = previous[node]
    return nodes[::-1]


def first_rows(scheme, layers, ends, most):
    """Return the first rows, as Python orders them, whose steps lead through all layers to one of these ends.

    The first layer has places with the rows that lead to them, each other one those to which steps lead from it.
    """
    base = scheme.base
    rights = {
        digit: [other for other in (None,) + scheme.digits if scheme.allows(digit, other)] for digit in scheme.digits
    }
    rows = []
    row = []
    # What is to be tried first stands last. The digits of a row are found from its first one on.
    stack = [(0, end) for end in sorted(ends, reverse=True)]
    while stack and len(rows) < most:
        depth, (rest, right) = stack.pop()
        del row[depth:]
        if depth == len(layers) - 1:
            rows.extend([tuple(row) + lower for lower in layers[0][rest, right]])
            continue
        row.append(right)
        before = rest * base + right
        layer = layers[-2 - depth]
        stack.extend([(depth + 1, (before, left)) for left in reversed(rights[right]) if (before, left) in layer])
    return rows[:most]
