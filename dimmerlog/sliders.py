"""Two sliders for the lamps, and lamps that change places."""

from dimmerlog.errors import TooMany
from dimmerlog.notes import pairs_of
from dimmerlog.solving import solve
from dimmerlog.steps import lamps_of
from dimmerlog.trees import OrderTree, fitting, least_order

MOST_LAMPS = 10


class Split:
    """The lamps of two sliders, or a paper that shows that the lamps cannot be divided."""

    def __init__(self, first, second, paper):
        self.first = first
        self.second = second
        self.paper = paper


class Divider:
    """Divides the lamps of a table among two sliders."""

    def __init__(self, table):
        self._table = table
        self._bars = {}

    def divided(self, first, second):
        """Return the Split where these lamps, which come first in the table, are on the sliders already."""
        paper = self._conflict(first, second)
        waiting = self._table.lamps[len(first) + len(second):]
        if paper is not None or len(waiting) == 0:
            return Split(first, second, None) if paper is None else Split(None, None, paper)
        lamp = waiting[0]
        one = self.divided((*first, lamp), second)
        if one.paper is None:
            return one
        two = self.divided(first, (*second, lamp))
        if two.paper is None:
            return two
        return Split(None, None, ("lamp", lamp, one.paper, two.paper))

    def _conflict(self, first, second):
        """Return the split paper with a bar whose lamps are all on one slider; None if there is none."""
        for number, lamps in ((1, first), (2, second)):
            bar = self._bar_of(lamps)
            if bar is not None:
                return ("bar", number, bar)
        return None

    def _bar_of(self, lamps):
        """Return a bar of the table with only these lamps; None if there is none."""
        if lamps not in self._bars:
            self._bars[lamps] = self._found(lamps)
        return self._bars[lamps]

    def _found(self, lamps):
        """Return a bar of the table with only these lamps, an earlier one if possible; None if there is none."""
        for bar in self._bars.values():
            if bar is not None and all([lamp in lamps for lamp in lamps_of(bar)]):
                return bar
        others = [lamp for lamp in self._table.lamps if lamp not in lamps]
        return solve(self._table.without(*others)).bar


def split(table):
    """Return the Split of the lamps among two sliders, with the first lamps on the first slider if possible."""
    if len(table.lamps) > MOST_LAMPS:
        raise TooMany(MOST_LAMPS)
    return Divider(table).divided((), ())


def exchanges(table, notes=None):
    """Return a list of all triples of two lamps and a look since which they may have been exchanged."""
    pairs = pairs_of(table, notes)
    lamps = sorted(table.lamps)
    found = []
    for at, first in enumerate(lamps):
        for second in lamps[at + 1:]:
            found.extend(_exchanges_of(table, pairs, first, second))
    return found


def _exchanges_of(table, pairs, first, second):
    """Return the triples of these two lamps."""
    # The other lamps stay as they are, so their orders are found only once.
    tree = fitting(OrderTree(table.looks), table.without(first, second))
    if tree is None:
        return []
    others = [lamp for lamp in table.lamps if lamp not in (first, second)]
    two = table.without(*others)
    found = []
    known = {}
    for since in table.looks:
        changed = two.exchanged(first, second, since=since)
        # Where a look shows both lamps or neither, an exchange since the next look is the same one.
        seen = (changed.seen(first), changed.seen(second))
        if seen not in known:
            known[seen] = _has_order(fitting(tree, changed), pairs)
        if known[seen]:
            found.append((first, second, since))
    return found


def _has_order(tree, pairs):
    """Tell whether the tree, or None, has an order that keeps the notes."""
    return tree is not None and least_order(tree, pairs) is not None
