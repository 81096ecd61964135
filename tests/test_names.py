"""Promise 2: what a name is, for lamps and for looks."""

import unittest

from dimmerlog.errors import InvalidName, UnknownName
from dimmerlog.tables import Table
from tests.cases import DimmerCase
from tests.values import RIGHT_NAMES, WRONG_NAMES

SIGNS = "abcdefghijklmnopqrstuvwxyz0123456789"


class Names(DimmerCase):
    def test_right_names_of_lamps(self):
        self.assertEqual(tuple(RIGHT_NAMES), Table(RIGHT_NAMES, []).lamps)

    def test_right_names_of_looks(self):
        looks = [(name, []) for name in RIGHT_NAMES]
        self.assertEqual(tuple(RIGHT_NAMES), Table([], looks).looks)

    def test_every_letter_and_digit(self):
        for sign in SIGNS:
            with self.subTest(sign):
                table = Table([sign], [("1" + sign, [sign])])
                self.assertEqual(((sign,), ("1" + sign,)), (table.lamps, table.looks))

    def test_every_other_sign_up_to_300(self):
        for sign in map(chr, range(300)):
            if sign not in SIGNS:
                with self.subTest(sign=sign):
                    for name in [sign, "a" + sign, sign + "a"]:
                        self.assert_names(InvalidName, name, Table, [name], [])
                        self.assert_names(InvalidName, name, Table, [], [(name, [])])

    def test_lengths(self):
        for length in range(1, 13):
            self.assertEqual(("a" * length,), Table(["a" * length], []).lamps)
        for length in [0, 13, 14, 1000]:
            name = "a" * length
            self.assert_names(InvalidName, name, Table, [name], [])
            self.assert_names(InvalidName, name, Table, [], [(name, [])])

    def test_wrong_names_of_lamps(self):
        for name in WRONG_NAMES:
            with self.subTest(str(name)[:20]):
                self.assert_names(InvalidName, name, Table, [name], [])
                self.assert_names(InvalidName, name, Table, ["a", name], [])

    def test_wrong_names_of_looks(self):
        for name in WRONG_NAMES:
            with self.subTest(str(name)[:20]):
                self.assert_names(InvalidName, name, Table, [], [(name, [])])
                self.assert_names(InvalidName, name, Table, ["a"], [("x", ["a"]), (name, ["a"])])

    def test_wrong_names_of_a_further_look(self):
        table = Table(["a"], [("x", [])])
        for name in WRONG_NAMES:
            with self.subTest(str(name)[:20]):
                self.assert_names(InvalidName, name, table.with_look, name, "a")

    def test_a_lamp_and_a_look_of_the_same_name(self):
        table = Table(["a", "b"], [("b", ["a"]), ("a", [])])
        self.assertEqual([True, False], [table["a", "b"], table["b", "b"]])
        self.assertEqual([("a",), ()], [table.shown("b"), table.shown("a")])
        self.assertEqual([("b",), ()], [table.seen("a"), table.seen("b")])

    def test_names_are_compared_as_strings(self):
        table = Table(["1", "01", "10"], [("1", ["01"]), ("01", ["1", "10"])])
        self.assertEqual([("01",), ("1", "10")], [table.shown("1"), table.shown("01")])
        self.assert_names(UnknownName, 1, table.shown, 1)
        self.assert_names(UnknownName, "001", table.seen, "001")


if __name__ == "__main__":
    unittest.main()
