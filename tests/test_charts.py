"""Promises 1 and 52: charts."""

import unittest

from dimmerlog.charts import chart
from dimmerlog.errors import InvalidOrder
from dimmerlog.tables import Table
from tests import plain
from tests.cases import DimmerCase
from tests.values import names

TEXT = "lamps a b\nlook x a\nlook y a b\nlook z b"


class Chart(DimmerCase):
    def setUp(self):
        self.table = Table.read(TEXT)

    def test_a_chart(self):
        self.assertEqual("a            ##.   2\nb            .##   2", chart(self.table, ["x", "y", "z"]))

    def test_the_order_need_not_fit(self):
        self.assertEqual("a            #.#   2\nb            .##   2", chart(self.table, ["x", "z", "y"]))

    def test_a_list_and_a_tuple(self):
        for order in [["z", "x", "y"], ("z", "x", "y")]:
            self.assertEqual("a            .##   2\nb            #.#   2", chart(self.table, order))

    def test_lamps_stand_in_the_order_of_the_table(self):
        table = Table(["b", "abcdefghijkl", "a1"], [("x", ["a1", "b"]), ("y", [])])
        self.assertEqual("b            .#   1\nabcdefghijkl ..   0\na1           .#   1", chart(table, "yx"))

    def test_marks_by_keyword(self):
        self.assertEqual("a            110   2\nb            011   2", chart(self.table, "xyz", on="1", off="0"))
        self.assertEqual("a            ##    2\nb             ##   2", chart(self.table, "xyz", off=" "))
        self.assertEqual("a            oo.   2\nb            .oo   2", chart(self.table, "xyz", on="o"))
        self.assertEqual("a            ..#   2\nb            #..   2", chart(self.table, "xyz", on=".", off="#"))
        self.assertRaises(TypeError, chart, self.table, "xyz", "1", "0")

    def test_no_lamps(self):
        self.assertEqual("", chart(Table([], []), ()))
        self.assertEqual("", chart(Table([], [("x", []), ("y", [])]), ["y", "x"]))

    def test_no_looks(self):
        for order in [(), []]:
            self.assertEqual("a               0\nb               0", chart(Table(["a", "b"], []), order))

    def test_24_looks(self):
        looks = names(24, "x")
        table = Table(["a", "b"], [(look, ["a"]) for look in looks])
        self.assertEqual(f"a            {'#' * 24}  24\nb            {'.' * 24}   0", chart(table, looks))

    def test_every_line_of_many_tables(self):
        for table in plain.small_tables()[::4]:
            order = table.looks[::-1]
            lines = [f"{lamp:<12} {''.join('#' if table[lamp, look] else '.' for look in order)}"
                     f" {len(table.seen(lamp)):>3}" for lamp in table.lamps]
            self.assertEqual("\n".join(lines), chart(table, order))

    def test_wrong_orders(self):
        for order in [(), ["x"], ["x", "y"], ["x", "y", "y"], ["x", "y", "z", "z"], ["x", "y", "q"], ["x", "y", "a"],
                      ["x", "y", "z", "q"], ["x", "x", "x"], ["x", "y", ""], ("z", "y", "x", "x"), ["xyz"]]:
            error = self.assert_raises(InvalidOrder, chart, self.table, order)
            self.assertEqual({}, vars(error))

    def test_wrong_orders_of_tables_without_looks_or_lamps(self):
        self.assert_raises(InvalidOrder, chart, Table([], []), ["x"])
        self.assert_raises(InvalidOrder, chart, Table(["a"], []), ("x",))
        self.assert_raises(InvalidOrder, chart, Table([], [("x", [])]), [])
        self.assert_raises(InvalidOrder, chart, Table([], [("x", [])]), ["x", "x"])

    def test_arguments_stay_as_they_are(self):
        order = ["z", "x", "y"]
        chart(self.table, order)
        self.assertEqual((TEXT, ["z", "x", "y"]), (str(self.table), order))


if __name__ == "__main__":
    unittest.main()
