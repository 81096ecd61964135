"""Promise 43, its first half: table.exchanged."""

import unittest

from dimmerlog.errors import UnknownName
from dimmerlog.tables import Table
from tests.cases import DimmerCase

TEXT = "lamps a b c\nlook w a\nlook x a c\nlook y b\nlook z a b"


class Exchanged(DimmerCase):
    def setUp(self):
        self.table = Table.read(TEXT)

    def assert_exchanged(self, text, *args, **named):
        self.assertEqual(text, str(self.table.exchanged(*args, **named)))

    def test_in_all_looks(self):
        text = "lamps a b c\nlook w b\nlook x b c\nlook y a\nlook z a b"
        self.assert_exchanged(text, "a", "b")
        self.assert_exchanged(text, "b", "a")
        self.assert_exchanged(text, "a", "b", since=None)
        self.assert_exchanged(text, "a", "b", since="w")

    def test_a_look_that_shows_one_of_them(self):
        self.assert_exchanged("lamps a b c\nlook w c\nlook x a c\nlook y b\nlook z b c", "a", "c")

    def test_since_a_look(self):
        self.assert_exchanged("lamps a b c\nlook w a\nlook x b c\nlook y a\nlook z a b", "a", "b", since="x")
        self.assert_exchanged("lamps a b c\nlook w a\nlook x a c\nlook y a\nlook z a b", "a", "b", since="y")
        self.assert_exchanged("lamps a b c\nlook w a\nlook x a c\nlook y b\nlook z b c", "a", "c", since="z")

    def test_behind_means_behind_in_the_table(self):
        table = Table(["a", "b"], [("z", ["a"]), ("y", ["a"]), ("x", ["a"])])
        found = table.exchanged("a", "b", since="y")
        self.assertEqual([("z", ("a",)), ("y", ("b",)), ("x", ("b",))], found.rows())

    def test_twice_is_not_at_all(self):
        self.assertEqual(self.table, self.table.exchanged("a", "c", since="x").exchanged("c", "a", since="x"))

    def test_the_same_lamp_for_both(self):
        self.assert_exchanged(TEXT, "a", "a")
        self.assert_exchanged(TEXT, "a", "a", since="x")

    def test_the_same_lamp_for_both_and_an_unknown_look(self):
        self.assert_names(UnknownName, "q", self.table.exchanged, "a", "a", since="q")

    def test_a_table_without_looks(self):
        table = Table(["a", "b"], [])
        self.assertEqual(table, table.exchanged("a", "b"))
        self.assert_names(UnknownName, "x", table.exchanged, "a", "b", since="x")

    def test_errors_in_their_order(self):
        call = self.table.exchanged
        self.assert_names(UnknownName, "p", call, "p", "q", since="r")
        self.assert_names(UnknownName, "q", call, "a", "q", since="r")
        self.assert_names(UnknownName, "r", call, "a", "b", since="r")
        self.assert_names(UnknownName, "q", call, "q", "q", since="x")
        self.assert_names(UnknownName, "q", call, "q", "b")
        self.assert_names(UnknownName, "q", call, "b", "q")

    def test_since_is_passed_by_name(self):
        self.assertRaises(TypeError, self.table.exchanged, "a", "b", "x")

    def test_the_table_stays_as_it_is(self):
        self.table.exchanged("a", "b")
        self.table.exchanged("a", "b", since="y")
        self.assertEqual(TEXT, str(self.table))


if __name__ == "__main__":
    unittest.main()
