"""Promises 1, 11, 13, 14 and 15, as far as they speak of nodes."""

import unittest
from itertools import permutations, product
from math import factorial

from dimmerlog.nodes import Branch, Group, Leaf, Node, Row


def leaves(names):
    """Return a leaf for each sign of a string."""
    return [Leaf(name) for name in names]


def group(names):
    return Group(*leaves(names))


def row(names):
    return Row(*leaves(names))


def orders(node):
    """Return all orders of a node, made as promise 11 says."""
    if isinstance(node, Leaf):
        return {(node.name,)}
    if isinstance(node, Group):
        arranged = list(permutations(node.parts))
    else:
        arranged = [node.parts, node.parts[::-1]]
    return {
        tuple(name for order in chosen for name in order)
        for parts in arranged for chosen in product(*[orders(part) for part in parts])
    }


# Each node, its leaves, its text, its number of orders and its shape.
NODES = [
    (Leaf("a"), "a", "a", 1, "a"),
    (group("ab"), "ab", "(a b)", 2, ("group", "a", "b")),
    (group("cab"), "cab", "(c a b)", 6, ("group", "c", "a", "b")),
    (row("abc"), "abc", "[a b c]", 2, ("row", "a", "b", "c")),
    (row("dcab"), "dcab", "[d c a b]", 2, ("row", "d", "c", "a", "b")),
    (Group(Leaf("c"), group("ba")), "cba", "(c (b a))", 4, ("group", "c", ("group", "b", "a"))),
    (Group(row("abd"), Leaf("c")), "abdc", "([a b d] c)", 4, ("group", ("row", "a", "b", "d"), "c")),
    (Row(Leaf("a"), group("bcd"), Leaf("e")), "abcde", "[a (b c d) e]", 12,
     ("row", "a", ("group", "b", "c", "d"), "e")),
    (Row(group("ab"), row("cde"), Leaf("f")), "abcdef", "[(a b) [c d e] f]", 8,
     ("row", ("group", "a", "b"), ("row", "c", "d", "e"), "f")),
    (Group(group("ab"), group("cd"), Leaf("e")), "abcde", "((a b) (c d) e)", 24,
     ("group", ("group", "a", "b"), ("group", "c", "d"), "e")),
    (Group(Row(group("ab"), Leaf("c"), Leaf("d")), group("ef")), "abcdef", "([(a b) c d] (e f))", 16,
     ("group", ("row", ("group", "a", "b"), "c", "d"), ("group", "e", "f"))),
]


class Nodes(unittest.TestCase):
    def test_classes(self):
        self.assertEqual(((Node,), (Node,)), (Leaf.__bases__, Branch.__bases__))
        self.assertEqual(((Branch,), (Branch,)), (Group.__bases__, Row.__bases__))

    def test_kinds(self):
        self.assertEqual(("leaf", "group", "row"), (Leaf.KIND, Group.KIND, Row.KIND))
        self.assertEqual(("leaf", "group", "row"), (Leaf("a").KIND, group("ab").KIND, row("abc").KIND))

    def test_attributes(self):
        self.assertEqual("a", Leaf("a").name)
        for made, names in [(Group, "ab"), (Group, "abc"), (Row, "abc"), (Row, "abcd")]:
            parts = leaves(names)
            node = made(*parts)
            self.assertEqual(tuple(parts), node.parts)
            self.assertIs(tuple, node.parts.__class__)

    def test_leaves(self):
        for node, names, text, _, _ in NODES:
            with self.subTest(text):
                self.assertEqual(tuple(names), node.leaves())

    def test_text(self):
        for node, _, text, _, _ in NODES:
            with self.subTest(text):
                self.assertEqual(text, node.text())

    def test_shape(self):
        for node, _, text, _, shape in NODES:
            with self.subTest(text):
                self.assertEqual(shape, node.shape())

    def test_many(self):
        for node, _, text, many, _ in NODES:
            with self.subTest(text):
                self.assertEqual(many, node.many())
                self.assertIs(int, node.many().__class__)
                self.assertEqual(many, len(orders(node)))

    def test_many_of_24_names(self):
        names = "abcdefghijklmnopqrstuvwx"
        self.assertEqual(factorial(24), group(names).many())
        self.assertEqual(2, row(names).many())
        pairs = [group(names[at:at + 2]) for at in range(0, 24, 2)]
        self.assertEqual(2 ** 12 * factorial(12), Group(*pairs).many())
        self.assertEqual(2 ** 13, Row(*pairs).many())

    def test_names_of_several_characters(self):
        node = Row(Leaf("ab"), Group(Leaf("b"), Leaf("abc")), Leaf("a"))
        self.assertEqual(("ab", "b", "abc", "a"), node.leaves())
        self.assertEqual("[ab (b abc) a]", node.text())
        self.assertEqual(("row", "ab", ("group", "b", "abc"), "a"), node.shape())
        self.assertTrue(node.begins(("a", "abc")))
        self.assertFalse(node.begins(("a", "b", "c")))

    def test_deep_nodes(self):
        node = Leaf("a")
        for name in "bcdefghijklmnopqrstuvwx":
            node = Group(node, Leaf(name))
        self.assertEqual(2 ** 23, node.many())
        self.assertEqual(tuple("abcdefghijklmnopqrstuvwx"), node.leaves())
        self.assertTrue(node.begins(tuple("xwvutsrqponmlkjihgfedcba")))
        self.assertTrue(node.begins(tuple("abcdefghijklmnopqrstuvwx")))
        self.assertFalse(node.begins(tuple("ac")))

    def test_deep_rows(self):
        node = row("abc")
        for names in ["de", "fg", "hi", "jk", "lm", "no", "pq", "rs", "tu", "vw"]:
            node = Row(Leaf(names[0]), node, Leaf(names[1]))
        self.assertEqual(2 ** 11, node.many())
        self.assertTrue(node.begins(tuple("wtrpnljhfdcbaegikmoqsuv")))
        self.assertFalse(node.begins(tuple("wtrpnljhfdbcaegikmoqsuv")))


class Begins(unittest.TestCase):
    def test_the_empty_prefix(self):
        for node, _, text, _, _ in NODES:
            with self.subTest(text):
                self.assertIs(True, node.begins(()))

    def test_every_prefix_of_every_node(self):
        # Also prefixes that are too long, have a name twice or have an unknown name.
        for node, names, text, _, _ in NODES:
            found = {order[:at] for order in orders(node) for at in range(len(order) + 1)}
            tried = [prefix for length in range(len(names) + 1) for prefix in permutations(names, length)]
            for length in range(min(len(names) + 1, 4) + 1):
                tried.extend(product([*names, "q"], repeat=length))
            for prefix in tried:
                with self.subTest(text, prefix=prefix):
                    self.assertIs(prefix in found, node.begins(prefix))

    def test_a_name_twice(self):
        self.assertIs(False, Leaf("a").begins(("a", "a")))
        self.assertIs(False, group("ab").begins(("a", "a")))
        self.assertIs(False, group("ab").begins(("a", "b", "a")))
        self.assertIs(False, row("abc").begins(("a", "b", "b")))
        self.assertIs(False, row("abc").begins(("a", "b", "c", "c")))
        self.assertIs(False, Group(group("ab"), Leaf("c")).begins(("a", "b", "a")))

    def test_an_unknown_name(self):
        for name in ["q", "", "A", "aa", "ab", None, 1, ["a"], ("a",)]:
            with self.subTest(str(name)):
                self.assertIs(False, Leaf("a").begins((name,)))
                self.assertIs(False, Leaf("a").begins(("a", name)))
                for node in [group("ab"), row("abc")]:
                    self.assertIs(False, node.begins((name,)))
                    self.assertIs(False, node.begins(("a", name)))
                    self.assertIs(False, node.begins(node.leaves() + (name,)))

    def test_the_prefix_stays_as_it_is(self):
        prefix = ["c", "a"]
        Group(group("ab"), Leaf("c")).begins(prefix)
        row("abc").begins(prefix)
        Leaf("a").begins(prefix)
        self.assertEqual(["c", "a"], prefix)


class Copies(unittest.TestCase):
    def test_later_changes_to_the_parts_have_no_effect(self):
        parts = leaves("abc")
        nodes = [Group(*parts), Row(*parts)]
        parts.reverse()
        parts.append(Leaf("d"))
        self.assertEqual(["(a b c)", "[a b c]"], [node.text() for node in nodes])

    def test_no_call_changes_a_node(self):
        for node, names, text, many, shape in NODES:
            before = text, many, shape, tuple(names), node.begins(tuple(names))
            node.begins(tuple(names[::-1]))
            node.begins(tuple(names[1:]))
            after = node.text(), node.many(), node.shape(), node.leaves(), node.begins(tuple(names))
            self.assertEqual(before, after)


if __name__ == "__main__":
    unittest.main()
