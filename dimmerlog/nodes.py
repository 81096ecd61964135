"""The nodes of a tree of orders: leaves, groups and rows."""

from math import factorial


class Node:
    """A leaf, a group or a row."""


class Leaf(Node):
    """One name."""

    KIND = "leaf"

    def __init__(self, name):
        self.name = name

    def leaves(self):
        """Return the names below the node: the one name."""
        return (self.name,)

    def many(self):
        """Return the number of orders."""
        return 1

    def shape(self):
        """Return the name, which is the shape of a leaf."""
        return self.name

    def text(self):
        """Return the name, which is the text of a leaf."""
        return self.name

    def begins(self, prefix):
        """Tell whether some order of the node begins with the names of the prefix."""
        return list(prefix) in ([], [self.name])


class Branch(Node):
    """A node that has parts."""

    def __init__(self, *parts):
        self.parts = parts


class Group(Branch):
    """Two or more parts, which stand in any order."""

    KIND = "group"

    def leaves(self):
        """Return the names below the node."""
        return _leaves_of(self.parts)

    def many(self):
        """Return the number of orders."""
        return _many_within(self.parts) * factorial(len(self.parts))

    def shape(self):
        """Return a tuple of the word "group" and the shapes of the parts."""
        return (self.KIND, *[part.shape() for part in self.parts])

    def text(self):
        """Return the texts of the parts in round brackets."""
        return f"({_texts_of(self.parts)})"

    def begins(self, prefix):
        """Tell whether some order of the node begins with the names of the prefix."""
        return _begin_in_turn(_parts_as_named(self.parts, prefix), prefix)


class Row(Branch):
    """Three or more parts, which stand in the given order or in its reverse."""

    KIND = "row"

    def leaves(self):
        """Return the names below the node."""
        return _leaves_of(self.parts)

    def many(self):
        """Return the number of orders."""
        return _many_within(self.parts) * 2

    def shape(self):
        """Return a tuple of the word "row" and the shapes of the parts."""
        return (self.KIND, *[part.shape() for part in self.parts])

    def text(self):
        """Return the texts of the parts in square brackets."""
        return f"[{_texts_of(self.parts)}]"

    def begins(self, prefix):
        """Tell whether some order of the node begins with the names of the prefix."""
        return _begin_in_turn(self.parts, prefix) or _begin_in_turn(self.parts[::-1], prefix)


def _leaves_of(parts):
    """Return the names below the parts."""
    return tuple([name for part in parts for name in part.leaves()])


def _many_within(parts):
    """Return the number of ways to choose one order for each of the parts."""
    ways = 1
    for part in parts:
        ways = ways * part.many()
    return ways


def _texts_of(parts):
    """Return the texts of the parts, separated by one space."""
    return " ".join([part.text() for part in parts])


def _parts_as_named(parts, prefix):
    """Return the parts that the prefix names, in the order in which it first names them."""
    # Parts that the prefix does not name may stand behind these in any order.
    named = []
    for name in prefix:
        for part in parts:
            if name in part.leaves() and part not in named:
                named.append(part)
    return named


def _begin_in_turn(parts, prefix):
    """Tell whether orders of the parts, one behind the other, can begin with the prefix."""
    start = 0
    for part in parts:
        end = start + len(part.leaves())
        # A part that the prefix does not reach gets an empty prefix, which always fits.
        if not part.begins(prefix[start:end]):
            return False
        start = end
    return len(prefix) <= start
