"""The orders that fit a table and keep its notes, and the papers that show that there is none."""

from math import factorial

from dimmerlog.errors import NoOrder
from dimmerlog.nodes import Leaf, Row
from dimmerlog.notes import Notes, pairs_of
from dimmerlog.steps import chain, check_pair, lamps_of, reached, tied, way_to
from dimmerlog.trees import OrderTree, fitting, kept_orders, least_order, links, openings


class Solution:
    """The least order that fits, or a bar or a ring that shows that no order fits."""

    def __init__(self, order, bar, ring):
        self.order = order
        self.bar = bar
        self.ring = ring

    def __bool__(self):
        return self.order is not None

    def used(self):
        """Return an ascending tuple of the lamps that occur in the bar or the ring."""
        chains = [] if self.ring is None else list(self.ring)
        if self.bar is not None:
            chains.append(self.bar)
        return tuple(lamps_of([step for steps in chains for step in steps]))


class Lines:
    """Counts the lines in which numbers can stand, where a pair (i, j) says that i stands before j.

    The pairs do not lead round. So any numbers can stand in some line, and a count that reaches the limit need
    not be finished: no count is higher than the limit.
    """

    def __init__(self, many, joined, limit):
        self._limit = limit
        self._ahead = [[first for first, second in joined if second == at] for at in range(many)]
        self._behind = [[second for first, second in joined if first == at] for at in range(many)]
        self._counts = {}

    def count_of(self, numbers):
        """Return in how many lines the numbers, an ascending tuple, can stand."""
        if numbers not in self._counts:
            self._counts[numbers] = min(self._limit, self._counted(numbers))
        return self._counts[numbers]

    def _counted(self, numbers):
        """Return the count of the numbers from those of fewer numbers."""
        clusters = self._clusters(numbers)
        if len(clusters) > 1:
            return self._mixed(clusters)
        if len(numbers) == 1:
            return 1
        # Taking away the fewest ends, and counting clusters apart, meets far fewer different tuples.
        count = 0
        for end in self._ends(numbers):
            if count < self._limit:
                count = count + self.count_of(tuple([number for number in numbers if number != end]))
        return count

    def _clusters(self, numbers):
        """Return the numbers in as many ascending tuples as possible such that no pair joins two tuples."""
        near = {at: [other for other in self._ahead[at] + self._behind[at] if other in numbers] for at in numbers}
        clusters = []
        for number in numbers:
            if all([number not in cluster for cluster in clusters]):
                clusters.append(tuple(sorted(reached(near, number, None))))
        return clusters

    def _mixed(self, clusters):
        """Return in how many ways lines of the clusters can be mixed into one line."""
        count = factorial(sum([len(cluster) for cluster in clusters]))
        for cluster in clusters:
            count = count // factorial(len(cluster))
        for cluster in clusters:
            count = count * self.count_of(cluster)
        return count

    def _ends(self, numbers):
        """Return the numbers that can stand in front, or those that can stand at the back if they are fewer."""
        front = [at for at in numbers if not any([other in numbers for other in self._ahead[at]])]
        back = [at for at in numbers if not any([other in numbers for other in self._behind[at]])]
        return min(front, back, key=len)


def solve(table, notes=None):
    """Return the Solution of the table and the notes."""
    pairs = pairs_of(table, notes)
    try:
        tree = OrderTree.of(table)
    except NoOrder as found:
        return Solution(None, found.bar, None)
    order = least_order(tree, pairs)
    if order is None:
        return Solution(None, None, _ring(table, pairs))
    return Solution(order, None, None)


def fits(table, notes=None):
    """Tell whether an order fits."""
    pairs = pairs_of(table, notes)
    tree = fitting(OrderTree(table.looks), table)
    return tree is not None and least_order(tree, pairs) is not None


def all_orders(table, notes=None):
    """Yield every order that fits, in ascending order."""
    pairs = pairs_of(table, notes)
    tree = fitting(OrderTree(table.looks), table)
    if tree is not None:
        yield from kept_orders(tree, pairs)


def count_orders(table, notes=None, *, most=1000):
    """Return the number of orders that fit, but not more than `most`."""
    pairs = pairs_of(table, notes)
    tree = fitting(OrderTree(table.looks), table)
    if tree is None or least_order(tree, pairs) is None:
        return 0
    return min(most, 1 if tree.root is None else _count_kept(tree.root, pairs, most))


def relation(table, notes, first, second):
    """Return "before" or "after" if every order that fits has the first look there, otherwise "open"."""
    check_fitting_pair(table, notes, first, second)
    if not fits_in_turn(table, notes, second, first):
        return "before"
    return "open" if fits_in_turn(table, notes, first, second) else "after"


def order_of(table, notes):
    """Return the least order that fits; raise NoOrder if there is none."""
    solution = solve(table, notes)
    if not solution:
        raise NoOrder(solution.bar, solution.ring)
    return solution.order


def check_fitting_pair(table, notes, first, second):
    """Raise the errors of `relation`, in their order."""
    check_pair(table, (first, second))
    order_of(table, notes)


def fits_in_turn(table, notes, *looks):
    """Tell whether an order fits in which each of the looks is before the next one of them."""
    pairs = list(zip(looks, looks[1:]))
    known = Notes() if notes is None else notes
    return fits(table, known + Notes(*pairs))


def _count_kept(node, notes, limit):
    """Return the number of orders of the node that keep the notes; any number from the limit on is as good.

    There is such an order.
    """
    if isinstance(node, Leaf):
        return 1
    count = len(openings(node, notes)) if isinstance(node, Row) else _count_lines(node.parts, notes, limit)
    for part in node.parts:
        count = count * _count_kept(part, notes, limit)
    return count


def _count_lines(parts, notes, limit):
    """Return in how many lines the parts of a group can stand, but not more than the limit."""
    lines = Lines(len(parts), sorted(set(links(parts, notes))), limit)
    return lines.count_of(tuple(range(len(parts))))


def _ring(table, notes):
    """Return a ring of a table that has no bar; no order fits the table and the notes."""
    origins = {}
    for note in notes:
        if note not in origins:
            for pair in tied(table, note):
                origins[pair] = note
    return [chain(table, origins[pair], pair) for pair in _round(origins)]


def _round(pairs):
    """Return as few of the pairs as possible that lead round."""
    leads = {name: [] for pair in pairs for name in pair}
    for first, second in pairs:
        leads[first].append(second)
    rounds = []
    for first, second in pairs:
        back = reached(leads, second, first)
        if first in back:
            rounds.append(way_to(back, first))
    shortest = min(rounds, key=len)
    return list(zip(shortest, shortest[1:] + shortest[:1]))
