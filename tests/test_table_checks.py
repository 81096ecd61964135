"""Promises 3 and 4: the size of a table, and the checks of Table in their order."""

import unittest

from dimmerlog.errors import DuplicateName, InvalidName, UnknownName
from dimmerlog.tables import Table
from tests.cases import DimmerCase
from tests.values import UNKNOWN_NAMES, names


def blank(many):
    """Return so many looks that show no lamp."""
    return [(name, []) for name in names(many, "x")]


class Size(DimmerCase):
    def test_none(self):
        table = Table([], [])
        self.assertEqual([(), (), 0, []], [table.lamps, table.looks, len(table), table.rows()])

    def test_24_are_not_too_many(self):
        table = Table(names(24), blank(24))
        self.assertEqual((tuple(names(24)), tuple(names(24, "x"))), (table.lamps, table.looks))
        self.assertEqual(24, len(table))

    def test_25_are_too_many(self):
        self.assert_limit(24, Table, names(25), [])
        self.assert_limit(24, Table, [], blank(25))
        self.assert_limit(24, Table, names(25), blank(25))
        self.assert_limit(24, Table, tuple(names(100)), [])

    def test_a_look_may_show_24_lamps(self):
        table = Table(names(24), [("x", names(24))])
        self.assertEqual(tuple(names(24)), table.shown("x"))

    def test_too_many_comes_ahead_of_wrong_names(self):
        self.assert_limit(24, Table, ["A", *names(24)], [])
        self.assert_limit(24, Table, ["n0", *names(24)], [])
        self.assert_limit(24, Table, ["A"], blank(25))
        self.assert_limit(24, Table, ["a"], [("x0", ["q"]), *blank(24)])
        self.assert_limit(24, Table, ["a"], [("X", ["a", "a"]), *blank(24)])

    def test_a_look_with_no_lamp_and_a_lamp_at_no_look(self):
        table = Table(["a", "b"], [("x", ["b"]), ("y", [])])
        self.assertEqual([("b",), ()], [table.shown("x"), table.shown("y")])
        self.assertEqual([(), ("x",)], [table.seen("a"), table.seen("b")])


class Order(DimmerCase):
    def test_wrong_lamps(self):
        self.assert_names(DuplicateName, "a", Table, ["a", "b", "a"], [])
        self.assert_names(InvalidName, "A", Table, ["a", "A", "a"], [])
        self.assert_names(DuplicateName, "a", Table, ["a", "a", "A"], [])
        self.assert_names(DuplicateName, "b", Table, ["a", "b", "b", "a"], [])
        self.assert_names(InvalidName, "A", Table, ["A", "A"], [])
        wrong = ["a"]
        self.assert_names(InvalidName, wrong, Table, ["a", wrong, wrong], [])

    def test_lamps_come_ahead_of_looks(self):
        self.assert_names(InvalidName, "A", Table, ["A"], [("X", ["q"])])
        self.assert_names(DuplicateName, "a", Table, ["a", "a"], [("X", ["q"])])

    def test_wrong_looks(self):
        self.assert_names(DuplicateName, "x", Table, [], [("x", []), ("y", []), ("x", [])])
        self.assert_names(InvalidName, "X", Table, [], [("x", []), ("X", []), ("x", [])])
        self.assert_names(DuplicateName, "x", Table, [], [("x", []), ("x", []), ("X", [])])
        self.assert_names(InvalidName, "X", Table, [], [("X", []), ("X", [])])

    def test_a_look_that_has_been_seen_with_other_lamps_is_a_duplicate(self):
        looks = [("x", ["a"]), ("x", ["b"])]
        self.assert_names(DuplicateName, "x", Table, ["a", "b"], looks)

    def test_the_name_of_a_look_comes_ahead_of_its_lamps(self):
        self.assert_names(InvalidName, "X", Table, ["a"], [("X", ["q"])])
        self.assert_names(DuplicateName, "x", Table, ["a"], [("x", []), ("x", ["q"])])

    def test_the_lamps_of_a_look_come_ahead_of_the_next_look(self):
        self.assert_names(UnknownName, "q", Table, ["a"], [("x", ["q"]), ("X", [])])
        self.assert_names(DuplicateName, "a", Table, ["a"], [("x", ["a", "a"]), ("x", [])])

    def test_unknown_lamps_of_a_look(self):
        for name in UNKNOWN_NAMES:
            with self.subTest(str(name)[:20]):
                self.assert_names(UnknownName, name, Table, ["a", "b"], [("x", ["a", name])])

    def test_a_look_is_no_lamp(self):
        self.assert_names(UnknownName, "x", Table, ["a"], [("x", ["x"])])

    def test_a_look_shows_a_lamp_twice(self):
        self.assert_names(DuplicateName, "a", Table, ["a", "b"], [("x", ["a", "b", "a"])])
        self.assert_names(DuplicateName, "b", Table, ["a", "b"], [("x", ["a", "b", "b", "a"])])

    def test_wrong_lamps_of_a_look_count_in_the_given_order(self):
        lamps = ["a", "b"]
        self.assert_names(UnknownName, "p", Table, lamps, [("x", ["a", "p", "q"])])
        self.assert_names(UnknownName, "q", Table, lamps, [("x", ["q", "a", "a"])])
        self.assert_names(DuplicateName, "a", Table, lamps, [("x", ["a", "a", "q"])])
        self.assert_names(UnknownName, "q", Table, lamps, [("x", ["q", "q"])])

    def test_two_looks_may_show_the_same_lamp(self):
        table = Table(["a"], [("x", ["a"]), ("y", ["a"])])
        self.assertEqual(("x", "y"), table.seen("a"))

    def test_more_than_24_lamps_of_a_look_are_wrong_one_by_one(self):
        self.assert_names(DuplicateName, "n0", Table, names(24), [("x", [*names(24), "n0", "q"])])


if __name__ == "__main__":
    unittest.main()
