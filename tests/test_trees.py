"""Promises 1, 5 and 10 to 15: the calls of a tree of orders."""

import unittest
from itertools import islice, permutations, product
from math import factorial
from random import Random

from dimmerlog.errors import DuplicateName, InvalidName, NoOrder, UnknownName
from dimmerlog.nodes import Group, Leaf, Row
from dimmerlog.tables import Table
from dimmerlog.trees import OrderTree
from tests import plain
from tests.cases import DimmerCase
from tests.values import UNKNOWN_NAMES, WRONG_NAMES, Pretender, names


def tree_of(looks, *choices):
    """Return the tree of the names in a string, where the names of each choice stand side by side."""
    tree = OrderTree(list(looks))
    for chosen in choices:
        tree = tree & list(chosen)
    return tree


def some_choices(looks):
    """Return short lists of choices from the names."""
    chosen = ["".join(some) for many in (2, 3) for some in permutations(looks, many) if list(some) == sorted(some)]
    return [(), *product(chosen, repeat=1), *product(chosen, repeat=2), *list(product(chosen, repeat=3))[::5]]


def listed(looks, choices):
    """Return the ascending list of all orders in which the names of each choice stand side by side."""
    return [
        order for order in permutations(sorted(looks))
        if all(plain.side_by_side(order, chosen) for chosen in choices)
    ]


def trees():
    """Return a tree for each list of choices for which there is an order, and its orders."""
    found = []
    for looks in ["", "a", "ab", "bca", "dbca"]:
        for choices in some_choices(looks):
            orders = listed(looks, choices)
            if orders:
                found.append((tree_of(looks, *choices), orders))
    return found


class Making(DimmerCase):
    def test_names_ascend(self):
        for given in [["c", "a", "b"], ("c", "a", "b")]:
            tree = OrderTree(given)
            self.assertEqual(("a", "b", "c"), tree.names)
            self.assertIs(tuple, tree.names.__class__)
            self.assertEqual("(a b c)", str(tree))

    def test_all_orders_of_the_names(self):
        for looks in ["", "a", "ba", "cab", "dbca"]:
            self.assertEqual(list(permutations(sorted(looks))), list(OrderTree(list(looks)).orders()))

    def test_no_names(self):
        tree = OrderTree([])
        self.assertEqual(((), None, 0, 1), (tree.names, tree.root, len(tree), tree.total))
        self.assertEqual(("()", ()), (str(tree), tree.shape()))
        self.assertEqual([()], list(tree.orders()))
        self.assertTrue(() in tree and [] in tree and tree.begins(()))
        self.assertFalse(("a",) in tree or tree.begins(("a",)))
        self.assertEqual(tree, tree & [])
        self.assert_names(UnknownName, "a", lambda: tree & ["a"])

    def test_one_name(self):
        tree = OrderTree(["abc"])
        self.assertIs(Leaf, tree.root.__class__)
        self.assertEqual((("abc",), "abc", 1, 1), (tree.names, tree.root.name, len(tree), tree.total))
        self.assertEqual(("abc", "abc"), (str(tree), tree.shape()))
        self.assertEqual([("abc",)], list(tree.orders()))
        self.assertEqual(tree, tree & ["abc", "abc"])

    def test_24_and_25_names(self):
        tree = OrderTree(names(24))
        self.assertEqual((24, factorial(24)), (len(tree), tree.total))
        self.assertEqual(tuple(sorted(names(24))), next(iter(tree.orders())))
        self.assert_limit(24, OrderTree, names(25))
        self.assert_limit(24, OrderTree, tuple(names(60)))

    def test_too_many_comes_ahead_of_wrong_names(self):
        self.assert_limit(24, OrderTree, ["A", *names(24)])
        self.assert_limit(24, OrderTree, ["n0", *names(24)])

    def test_wrong_names(self):
        for name in WRONG_NAMES:
            with self.subTest(str(name)[:20]):
                self.assert_names(InvalidName, name, OrderTree, [name])
                self.assert_names(InvalidName, name, OrderTree, ["a", name, "a"])

    def test_the_first_wrong_name_counts(self):
        self.assert_names(DuplicateName, "a", OrderTree, ["a", "b", "a", "A"])
        self.assert_names(InvalidName, "A", OrderTree, ["a", "A", "a"])
        self.assert_names(InvalidName, "A", OrderTree, ["A", "A"])


class SideBySide(DimmerCase):
    def test_every_choice_against_a_plain_listing(self):
        for looks in ["ab", "bca", "dbca"]:
            for choices in some_choices(looks):
                orders = listed(looks, choices)
                with self.subTest(looks, choices=choices):
                    if orders:
                        self.assertEqual(orders, list(tree_of(looks, *choices).orders()))
                    else:
                        self.assertEqual((None, None), self.assert_no_order(tree_of, looks, *choices))

    def test_choices_of_six_names_against_a_plain_listing(self):
        runs = [
            ["abc", "cde"], ["ab", "bc", "cd", "de", "ef"], ["ab", "cd", "ef", "abcd"], ["ab", "cd", "bd", "abcde"],
            ["abc", "def", "cd"], ["abc", "def", "cdf"], ["abcd", "cdef", "bcde"], ["ab", "ac", "def", "cd"],
            ["ab", "ac", "def", "ad"], ["ace", "bdf", "cf"], ["ab", "abc", "abcd", "abcde", "ae"], ["ab", "bc", "ca"],
            ["ab", "bc", "de", "ef", "abcdef", "cd"], ["ab", "bc", "de", "ef", "be"], ["ab", "cd", "ef", "ac", "ce"],
            ["ab", "cd", "ef", "bd", "df", "ae"], ["abc", "bcd", "cde", "def"], ["abc", "bcd", "af"],
            ["af", "abf", "bc", "cd", "de"], ["ab", "cd", "ef", "acd", "def"], ["bc", "abcd", "ad"], ["bc", "abcd", "ef", "de"],
        ]
        for choices in runs:
            for turned in [choices, choices[::-1]]:
                orders = listed("fbdace", turned)
                with self.subTest(choices=turned):
                    if orders:
                        tree = tree_of("fbdace", *turned)
                        self.assertEqual((orders, len(orders)), (list(tree.orders()), tree.total))
                        self.assertEqual(tree_of("abcdef", *turned[::-1]), tree)
                    else:
                        self.assertEqual((None, None), self.assert_no_order(tree_of, "fbdace", *turned))

    def test_many_choices_along_a_line_against_a_plain_listing(self):
        rest = Random(3)
        every = list(permutations("abcdef"))
        for _ in range(250):
            tree, orders, line = OrderTree([*"fbdace"]), every, rest.sample("abcdef", 6)
            for _ in range(rest.randint(2, 6)):
                start = rest.randint(0, 4)
                chosen = line[start:start + rest.randint(2, 5)]
                # Now and then the chosen names need not stand side by side in the line.
                chosen = rest.sample("abcdef", 3) if rest.random() < 0.2 else chosen
                kept = [order for order in orders if plain.side_by_side(order, chosen)]
                if kept:
                    tree, orders = tree & chosen, kept
                    self.assertEqual((orders, len(orders)), (list(tree.orders()), tree.total))
                else:
                    self.assertEqual((None, None), self.assert_no_order(lambda: tree & chosen))

    def test_texts(self):
        for text, looks, *choices in [
                ("(a b c)", "cab"), ("((a c) b)", "cab", "ca"), ("[a c b]", "abc", "ac", "bc"),
                ("[a b c]", "cba", "ab", "cb"), ("((a b) (c d))", "abcd", "cd", "ab"),
                ("([a b d] c)", "abcd", "db", "ba"), ("[(a b) c (d e)]", "abcde", "abc", "cde"),
                ("[(a b) c d]", "abcd", "abc", "cd", "ab"), ("[a [b c d] e]", "abcde", "bc", "cd", "abcd", "bcde"),
                ("[b (a c) d]", "abcd", "bac", "acd"), ("[b a c]", "abc", "ac", "ab"),
                ("(a (b c d))", "abcd", "bcd"), ("[a b c d]", "dcba", "ab", "bc", "cd"),
                ("((a (b d)) c)", "abcd", "bd", "abd"), ("([b a d] c)", "abcd", "ba", "ad"),
                ("([a c d] b)", "abcd", "ac", "dc"), ("([c a d] b)", "abcd", "ac", "ad")]:
            with self.subTest(text):
                self.assertEqual(text, str(tree_of(looks, *choices)))

    def test_a_name_twice_counts_once(self):
        tree = tree_of("abcd", "bc")
        self.assertEqual(tree_of("abcd", "bc"), tree_of("abcd", "bcbcb"))
        self.assertEqual(tree, tree & ["d", "d"])
        self.assertEqual(tree, tree & ["a"] * 30)

    def test_no_names_or_one_name_or_all_names_change_nothing(self):
        for tree, _ in trees():
            with self.subTest(str(tree)):
                before = str(tree)
                for chosen in [[], (), *[[name] for name in tree.names], tree.names, list(tree.names)]:
                    self.assertEqual(before, str(tree & chosen))

    def test_tuples_are_taken_as_lists_are(self):
        self.assertEqual(OrderTree(["a", "b", "c"]) & ["b", "c"], OrderTree(("a", "b", "c")) & ("b", "c"))

    def test_unknown_names(self):
        tree = tree_of("ab")
        for name in UNKNOWN_NAMES:
            with self.subTest(str(name)[:20]):
                self.assert_names(UnknownName, name, lambda: tree & [name])
                self.assert_names(UnknownName, name, lambda: tree & ["a", name, "q"])
                self.assert_names(UnknownName, name, lambda: tree & (name, name))

    def test_unknown_names_come_ahead_of_no_order(self):
        tree = tree_of("abc", "ab", "bc")
        self.assertEqual((None, None), self.assert_no_order(lambda: tree & ["a", "c"]))
        self.assert_names(UnknownName, "d", lambda: tree & ["a", "c", "d", "e"])

    def test_24_names(self):
        looks = names(24)
        tree = OrderTree(looks)
        for at in range(23):
            tree = tree & looks[at:at + 2]
        self.assertEqual([tuple(looks), tuple(looks[::-1])], sorted(tree.orders(), key=lambda order: order[0]))
        self.assertEqual("[" + " ".join(looks) + "]", str(tree))
        self.assertEqual((None, None), self.assert_no_order(lambda: tree & ["n0", "n23"]))

    def test_24_names_one_inside_the_other(self):
        looks = names(24)
        tree = OrderTree(looks)
        for many in range(23, 1, -1):
            tree = tree & looks[:many]
        self.assertEqual(2 ** 23, tree.total)
        self.assertTrue(tree.begins(looks))
        self.assertTrue(looks[::-1] in tree)


class Tables(DimmerCase):
    def test_tables_against_a_plain_listing(self):
        for table in plain.small_tables():
            orders = plain.orders_of(table)
            with self.subTest(str(table)):
                if orders:
                    self.assertEqual(orders, list(OrderTree.of(table).orders()))
                    self.assertEqual(tuple(sorted(table.looks)), OrderTree.of(table).names)
                else:
                    bar, ring = self.assert_no_order(OrderTree.of, table)
                    self.assertTrue(plain.is_bar(table, bar))
                    self.assertEqual(plain.fewest_of_a_bar(table), len(bar))
                    self.assertIsNone(ring)

    def test_a_table_without_looks_or_without_lamps(self):
        self.assertEqual("()", str(OrderTree.of(Table(["a"], []))))
        self.assertEqual("(x y z)", str(OrderTree.of(Table([], [("z", []), ("x", []), ("y", [])]))))
        self.assertEqual("x", str(OrderTree.of(Table(["a", "b"], [("x", ["b"])]))))

    def test_a_look_and_a_lamp_of_the_same_name(self):
        table = Table(["x", "y"], [("x", ["y"]), ("y", ["y"]), ("z", ["x"])])
        self.assertEqual("((x y) z)", str(OrderTree.of(table)))

    def test_24_looks_and_24_lamps(self):
        looks = names(24, "x")
        rows = [(look, names(24)[max(0, at - 1):at + 1]) for at, look in enumerate(looks)]
        tree = OrderTree.of(Table(names(24), rows[::-1]))
        self.assertEqual("[" + " ".join(looks) + "]", str(tree))


class Asking(DimmerCase):
    def test_the_form_is_made_of_nodes(self):
        root = tree_of("abcd", "db", "ba").root
        self.assertEqual((Group, Row, Leaf), (root.__class__, root.parts[0].__class__, root.parts[1].__class__))
        self.assertEqual(("a", "b", "d"), root.parts[0].leaves())

    def test_membership(self):
        for tree, orders in trees():
            with self.subTest(str(tree)):
                for order in permutations(tree.names):
                    self.assertIs(order in orders, order in tree)
                    self.assertIs(order in orders, list(order) in tree)

    def test_what_is_no_order(self):
        tree = tree_of("abc", "ab")
        for order in [(), ("a",), ("a", "b"), ("a", "b", "b"), ("a", "b", "d"), ("a", "b", "c", "c"), ["a", "b", "c", "d"],
                      ("a", "b", "C"), ("a", "b", 1), ("a", "b", None), ("a", "b", ["c"]), ("a", "b", Pretender())]:
            with self.subTest(str(order)):
                self.assertIs(False, order in tree)

    def test_every_prefix(self):
        for tree, orders in trees()[::3]:
            found = {order[:at] for order in orders for at in range(len(order) + 1)}
            for length in range(len(tree.names) + 2):
                for prefix in product([*tree.names, "q"], repeat=length):
                    self.assertIs(prefix in found, tree.begins(prefix))
                    self.assertIs(prefix in found, tree.begins(list(prefix)))

    def test_the_empty_prefix(self):
        for tree, _ in trees():
            self.assertIs(True, tree.begins(()))
            self.assertIs(True, tree.begins([]))

    def test_prefixes_with_a_name_twice_or_an_unknown_name(self):
        tree = tree_of("abc", "ab")
        for prefix in [("a", "a"), ("a", "b", "a"), ("c", "c"), ("a", "b", "c", "a"), ("q",), ("a", "q"), ("a", "b", "c", "q"),
                       ("A",), ("",), (1,), (None,), (["a"],), (("a", "b"),), (Pretender(),), ("a", Pretender())]:
            with self.subTest(str(prefix)):
                self.assertIs(False, tree.begins(prefix))

    def test_total(self):
        for tree, orders in trees():
            self.assertEqual(len(orders), tree.total)
            self.assertIs(int, tree.total.__class__)

    def test_total_of_many_names(self):
        looks = names(24)
        tree = OrderTree(looks) & looks[:4] & looks[4:20] & looks[2:6]
        # A row of two, two, two and 14 names stands in a group with the last four names.
        self.assertEqual(2 * 2 ** 3 * factorial(14) * factorial(5), tree.total)

    def test_length(self):
        self.assertEqual([0, 1, 4], [len(tree_of(looks)) for looks in ["", "a", "abcd"]])
        self.assertEqual(4, len(tree_of("abcd", "ab", "bc")))

    def test_shape(self):
        self.assertEqual(("group", ("row", "a", "b", "d"), "c"), tree_of("abcd", "db", "ba").shape())
        self.assertEqual(("row", ("group", "a", "b"), "c", ("group", "d", "e")), tree_of("abcde", "abc", "cde").shape())
        self.assertEqual(("group", "a", "b"), tree_of("ba").shape())

    def test_orders_are_yielded_one_by_one(self):
        looks = sorted(names(24))
        first = list(islice((OrderTree(looks) & looks[:2]).orders(), 3))
        self.assertEqual([tuple(looks), (*looks[:22], looks[23], looks[22])], first[:2])
        self.assertEqual((*looks[:21], looks[22], looks[21], looks[23]), first[2])

    def test_orders_ascend_where_parts_begin_in_turns(self):
        for choices in [["ad", "be", "cf"], ["adbe", "becf", "ad", "cf"], ["af", "afbe", "be"]]:
            orders = listed("abcdef", choices)
            self.assertEqual(orders, list(tree_of("abcdef", *choices).orders()))


class OneForm(DimmerCase):
    def assert_form(self, node):
        """The node and the nodes below it have the form of promise 12."""
        if isinstance(node, Leaf):
            return
        least = [min(part.leaves()) for part in node.parts]
        if isinstance(node, Row):
            self.assertGreaterEqual(len(least), 3)
            self.assertLess(least[0], least[-1])
        else:
            self.assertGreaterEqual(len(least), 2)
            self.assertEqual(sorted(least), least)
        for part in node.parts:
            self.assert_form(part)

    def test_the_form_of_every_tree(self):
        for tree, _ in trees():
            with self.subTest(str(tree)):
                if tree.root is not None:
                    self.assert_form(tree.root)

    def test_trees_are_equal_exactly_if_they_hold_the_same_orders(self):
        some = trees()[::2]
        for tree, orders in some:
            for other, others in some:
                same = orders == others
                self.assertIs(same, tree == other)
                self.assertIs(not same, tree != other)
                self.assertIs(same, str(tree) == str(other))
                self.assertIs(same, tree.shape() == other.shape())

    def test_names_are_compared_as_strings(self):
        self.assertEqual("(a a1 a10 a2 b)", str(OrderTree(["b", "a2", "a10", "a1", "a"])))
        self.assertEqual("(1 10 2)", str(OrderTree(["2", "10", "1"])))

    def test_names_like_the_words_of_a_shape(self):
        looks = ["group", "row", "x"]
        self.assertEqual("(group row x)", str(OrderTree(looks)))
        self.assertNotEqual(OrderTree(looks), OrderTree(looks) & ["group", "row"])

    def test_other_values_are_not_equal(self):
        for tree in [OrderTree([]), OrderTree(["a"]), tree_of("abc", "ab")]:
            for other in [None, 0, "()", "a", str(tree), tree.shape(), tree.names, tree.root, [], tree_of("xyz"), Pretender()]:
                self.assertIs(False, tree == other)
                self.assertIs(True, tree != other)


class Unchanged(DimmerCase):
    def test_trees_that_were_made_before_stay_as_they_were(self):
        for tree, orders in trees()[::2]:
            before = str(tree), tree.shape(), tree.names, tree.total
            for chosen in permutations(tree.names, 2):
                try:
                    str(tree & chosen)
                except NoOrder:
                    pass
            self.assertEqual(before, (str(tree), tree.shape(), tree.names, tree.total))
            self.assertEqual(orders, list(tree.orders()))

    def test_and_makes_a_new_tree(self):
        tree = tree_of("abc")
        self.assertIsNot(tree, tree & [])
        self.assertIsNot(tree, tree & ["a", "b"])
        self.assertIs(OrderTree, (tree & ["a", "b"]).__class__)

    def test_arguments_stay_as_they_are(self):
        given, chosen, prefix = ["c", "b", "a"], ["c", "b", "c"], ["b", "c"]
        tree = OrderTree(given) & chosen
        self.assertTrue(tree.begins(prefix))
        self.assertFalse(prefix in tree)
        self.assertEqual((["c", "b", "a"], ["c", "b", "c"], ["b", "c"]), (given, chosen, prefix))
        table = Table.read(plain.WITH_ORDER[6])
        OrderTree.of(table)
        self.assertEqual(plain.WITH_ORDER[6], str(table))

    def test_later_changes_to_the_names_have_no_effect(self):
        given, chosen = ["c", "b", "a"], ["c", "b"]
        tree = OrderTree(given)
        narrow = tree & chosen
        given.clear()
        chosen.append("a")
        self.assertEqual(("(a b c)", "(a (b c))"), (str(tree), str(narrow)))
        self.assertEqual(("a", "b", "c"), tree.names)


if __name__ == "__main__":
    unittest.main()
