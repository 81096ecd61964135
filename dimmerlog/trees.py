"""The tree of all orders of names in which chosen names stand side by side."""

from dimmerlog.errors import NoOrder, TooMany
from dimmerlog.names import check_all_known, distinct_names
from dimmerlog.nodes import Group, Leaf, Node, Row
from dimmerlog.steps import bar
from dimmerlog.tables import LIMIT

# How many of the names below a node are chosen, in this order along a piece of a row.
EMPTY = 0
MIXED = 1
FULL = 2


class OrderTree:
    """The orders of a node, or the empty order alone if there are no names."""

    def __init__(self, names):
        # An operator assigns no attributes. So `&` hands over the node of its new tree here.
        self.root = names if isinstance(names, Node) else _root_of(names)
        self.names = () if self.root is None else tuple(sorted(self.root.leaves()))

    @classmethod
    def of(cls, table):
        """Return the tree of all orders that fit the table; raise NoOrder if there is none."""
        tree = fitting(cls(table.looks), table)
        if tree is None:
            raise NoOrder(bar(table), None)
        return tree

    def __and__(self, other):
        check_all_known(other, self.names)
        if self.root is None:
            return OrderTree(())
        return OrderTree(_joined(self.root, {name: True for name in other}))

    def __contains__(self, x):
        return len(x) == len(self.names) and self.begins(x)

    def __eq__(self, other):
        return isinstance(other, OrderTree) and self.shape() == other.shape()

    def __len__(self):
        return len(self.names)

    def __str__(self):
        if self.root is None:
            return "()"
        return str(self.root.text())

    @property
    def total(self):
        """The number of orders."""
        return 1 if self.root is None else self.root.many()

    def shape(self):
        """Return the shape of the root, or the empty tuple if there are no names."""
        return () if self.root is None else self.root.shape()

    def begins(self, prefix):
        """Tell whether some order begins with the names of the prefix."""
        # A value that is no string may claim to equal a name.
        if not all([isinstance(name, str) for name in prefix]):
            return False
        return len(prefix) == 0 if self.root is None else self.root.begins(tuple(prefix))

    def orders(self):
        """Yield every order, in ascending order."""
        yield from kept_orders(self, ())


def fitting(tree, table):
    """Return the tree with only those orders that fit the table; None if there is none."""
    try:
        for lamp in table.lamps:
            tree = tree & table.seen(lamp)
    except NoOrder:
        return None
    return tree


def least_order(tree, notes):
    """Return the least order of the tree that keeps the notes, a tuple of pairs; None if there is none."""
    order = []
    nodes = _nodes_of(tree)
    # As long as an order is possible, each start that the notes permit can be
    # completed to one. So the least name is right everywhere, and no start is
    # left only if no order is possible.
    while len(nodes) > 0:
        found = _starts(nodes[0], notes)
        if len(found) == 0:
            return None
        name = min(found)
        order.append(name)
        nodes = found[name] + nodes[1:]
    return tuple(order)


def kept_orders(tree, notes):
    """Yield every order of the tree that keeps the notes, in ascending order."""
    # If there is none, starts that the notes permit would lead to dead ends only.
    waiting = [] if least_order(tree, notes) is None else [((), _nodes_of(tree))]
    while len(waiting) > 0:
        order, nodes = waiting.pop()
        if len(nodes) == 0:
            yield order
        else:
            found = _starts(nodes[0], notes)
            for name in sorted(found, reverse=True):
                waiting.append(((*order, name), found[name] + nodes[1:]))


def openings(node, notes):
    """Return the runs of nodes, each a tuple, in which the parts of a node can stand without breaking a note.

    A run of a row has all of its parts. A run of a group has the part in front, and the node of the others.
    """
    parts = node.parts
    joined = links(parts, notes)
    if isinstance(node, Row):
        runs = [parts] if all([first < second for first, second in joined]) else []
        return runs + [parts[::-1]] if all([first > second for first, second in joined]) else runs
    late = {second: True for _, second in joined}
    return [(part, _as_group(parts[:at] + parts[at + 1:])) for at, part in enumerate(parts) if at not in late]


def links(parts, notes):
    """Return a pair (i, j) for each note that puts the part at i before another one, at j."""
    if len(notes) == 0:
        return []
    place = {name: at for at, part in enumerate(parts) for name in part.leaves()}
    within = [(place[before], place[after]) for before, after in notes if before in place and after in place]
    return [(first, second) for first, second in within if first != second]


def _root_of(names):
    """Return the node of all orders of the names, or None if there are none; raise an error if they are wrong."""
    if len(names) > LIMIT:
        raise TooMany(LIMIT)
    leaves = [Leaf(name) for name in distinct_names(names)]
    return _group(leaves) if len(leaves) > 0 else None


def _nodes_of(tree):
    """Return the tuple of nodes whose orders, one behind the other, are those of the tree."""
    return () if tree.root is None else (tree.root,)


def _starts(node, notes):
    """Return a dict: each name with which the node can begin, and the tuple of nodes that follow the name."""
    if isinstance(node, Leaf):
        return {node.name: ()}
    found = {}
    for run in openings(node, notes):
        inner = _starts(run[0], notes)
        for name in inner:
            found[name] = inner[name] + run[1:]
    return found


def _least_name(node):
    """Return the least name below the node."""
    return min(node.leaves())


def _as_group(parts):
    """Return the group of the parts as they stand; a single part stands for itself."""
    return parts[0] if len(parts) == 1 else Group(*parts)


def _group(parts):
    """Return the group of the parts in its one form; a single part stands for itself."""
    return _as_group(sorted(parts, key=_least_name))


def _grouped(parts):
    """Return a list of the group of the parts, which is empty if there are no parts."""
    return [_group(parts)] if len(parts) > 0 else []


def _row(parts):
    """Return the row of the parts in its one form; fewer than three parts are a group."""
    if len(parts) < 3:
        return _group(parts)
    placed = parts if _least_name(parts[0]) < _least_name(parts[-1]) else parts[::-1]
    return Row(*placed)


def _filling(node, chosen):
    """Return how many of the names below the node are chosen: EMPTY, MIXED or FULL."""
    found = [name in chosen for name in node.leaves()]
    if all(found):
        return FULL
    return MIXED if any(found) else EMPTY


def _parts_with(filling, parts, chosen):
    """Return those parts that have this filling."""
    return [part for part in parts if _filling(part, chosen) == filling]


def _joined(node, chosen):
    """Return the node with only those orders in which the chosen names stand side by side."""
    if len(chosen) < 2:
        return node
    parts = node.parts
    touched = [part for part in parts if _filling(part, chosen) != EMPTY]
    if len(touched) == 1:
        changed = [_joined(part, chosen) if part in touched else part for part in parts]
        return _row(changed) if isinstance(node, Row) else _group(changed)
    return _joined_row(parts, chosen) if isinstance(node, Row) else _joined_group(parts, chosen)


def _joined_group(parts, chosen):
    """Return the node of a group with two or more parts that have chosen names."""
    mixed = _parts_with(MIXED, parts, chosen)
    if len(mixed) > 2:
        raise NoOrder(None, None)
    sides = [_chosen_last(part, chosen) for part in mixed] + [[], []]
    full = _grouped(_parts_with(FULL, parts, chosen))
    joined = _row([*sides[0], *full, *sides[1][::-1]])
    return _group([*_parts_with(EMPTY, parts, chosen), joined])


def _joined_row(parts, chosen):
    """Return the node of a row with two or more parts that have chosen names."""
    touched = [at for at, part in enumerate(parts) if _filling(part, chosen) != EMPTY]
    first, last = touched[0], touched[-1]
    inner = parts[first + 1:last]
    if len(_parts_with(FULL, inner, chosen)) < len(inner):
        raise NoOrder(None, None)
    left = _chosen_last(parts[first], chosen)
    right = _chosen_last(parts[last], chosen)[::-1]
    return _row([*parts[:first], *left, *inner, *right, *parts[last + 1:]])


def _chosen_last(node, chosen):
    """Return the parts of a row with those orders of the node in which the chosen names stand at the end."""
    if _filling(node, chosen) != MIXED:
        return [node]
    if isinstance(node, Row):
        turned = _filling(node.parts[0], chosen) > _filling(node.parts[-1], chosen)
        parts = node.parts[::-1] if turned else node.parts
    else:
        empty, mixed, full = [_parts_with(filling, node.parts, chosen) for filling in (EMPTY, MIXED, FULL)]
        parts = [*_grouped(empty), *mixed, *_grouped(full)]
    pieces = [piece for part in parts for piece in _chosen_last(part, chosen)]
    fillings = [_filling(piece, chosen) for piece in pieces]
    if fillings != sorted(fillings):
        raise NoOrder(None, None)
    return pieces
