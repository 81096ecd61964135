"""Steps from one pair of looks to another: chains, tied pairs and bars."""

from dimmerlog.errors import InvalidNote
from dimmerlog.names import check_all_known

# A step keeps one look of a pair in its place, so two steps cannot lead from a
# pair to its reverse. A bar has three steps or more.
SHORTEST_BAR = 4


def chain(table, start, end):
    """Return a chain with the fewest triples from one pair to another; None if they are not tied."""
    check_pair(table, start)
    check_pair(table, end)
    leads = _leads(table)
    origins = reached(leads, start, end)
    if end not in origins:
        return None
    return _chain_along(leads, way_to(origins, end))


def tied(table, pair):
    """Return an ascending list of all pairs that are tied to the pair."""
    check_pair(table, pair)
    return sorted(reached(_leads(table), pair, None))


def bar(table):
    """Return a bar with the fewest triples; None if there is none."""
    leads = _leads(table)
    best = None
    no_bars = {}
    for first, second in leads:
        start, end = (first, second), (second, first)
        # A bar from y to x is a bar from x to y with its two looks exchanged.
        if first < second and start not in no_bars:
            origins = reached(leads, start, end)
            if end not in origins:
                no_bars.update({pair: True for pair in origins})
            elif best is None or len(way_to(origins, end)) < len(best):
                best = _chain_along(leads, way_to(origins, end))
        if best is not None and len(best) == SHORTEST_BAR:
            return best
    return best


def lamps_of(steps):
    """Return an ascending list of the lamps that occur in a list of triples."""
    return sorted({lamp for _, _, lamp in steps if lamp is not None})


def check_pair(table, pair):
    """Raise UnknownName or InvalidNote unless the pair names two different looks of the table."""
    check_all_known(pair, table.looks)
    first, second = pair
    if first == second:
        raise InvalidNote(first, second)


def reached(leads, start, end):
    """Return a dict: each stop that can be reached, and the stop ahead of it on a shortest way.

    `leads` gives for each stop the stops to which it leads. The stop ahead of the start is None.
    The search ends when it reaches the end, which is None if it is to reach all stops.
    """
    origins = {start: None}
    layer = [start]
    while len(layer) > 0 and end not in origins:
        further = {other: stop for stop in layer for other in leads[stop] if other not in origins}
        origins.update(further)
        layer = list(further)
    return origins


def way_to(origins, end):
    """Return the list of stops that lead to the end, where `origins` has the stop ahead of each."""
    stops = [end]
    while origins[stops[-1]] is not None:
        stops.append(origins[stops[-1]])
    return stops[::-1]


def _leads(table):
    """Return a dict from each pair to a dict: each pair to which a step leads, and a lamp of such a step."""
    leads = {(first, second): {} for first in table.looks for second in table.looks if first != second}
    for lamp in table.lamps:
        seen = table.seen(lamp)
        dark = [look for look in table.looks if look not in seen]
        moves = [(old, new, other) for old in seen for new in seen if old != new for other in dark]
        for old, new, other in moves:
            leads[old, other].setdefault((new, other), lamp)
            leads[other, old].setdefault((other, new), lamp)
    return leads


def _chain_along(leads, pairs):
    """Return the chain that goes through the pairs."""
    steps = [(*pairs[0], None)]
    for old, new in zip(pairs, pairs[1:]):
        steps.append((*new, leads[old][new]))
    return steps
