"""Promises 6 and 7: the text of a table, and Table.read."""

import unittest
from itertools import product

from dimmerlog.errors import DimmerError
from dimmerlog.tables import Table
from tests.cases import DimmerCase
from tests.values import names


class Writing(unittest.TestCase):
    def test_example(self):
        self.assertEqual("lamps a b\nlook x a\nlook y", str(Table(["a", "b"], [("x", ["a"]), ("y", [])])))

    def test_no_lamps_and_no_looks(self):
        self.assertEqual("lamps", str(Table([], [])))
        self.assertEqual("lamps a", str(Table(["a"], [])))
        self.assertEqual("lamps\nlook x\nlook w", str(Table([], [("x", []), ("w", [])])))

    def test_lamps_stand_in_the_order_of_the_table(self):
        table = Table(["c", "a", "b"], [("y", ["a", "b", "c"]), ("x", ["b", "c"])])
        self.assertEqual("lamps c a b\nlook y c a b\nlook x c b", str(table))


class Reading(DimmerCase):
    def test_reading_what_was_written(self):
        tables = [
            Table([], []),
            Table(["a"], []),
            Table([], [("x", [])]),
            Table(["b", "a"], [("y", ["a"]), ("x", []), ("b", ["a", "b"])]),
            Table(names(24), [(name, names(24)) for name in names(24, "x")]),
        ]
        for table in tables:
            with self.subTest(str(table)[:30]):
                self.assertEqual(table, Table.read(str(table)))

    def test_lamps_of_a_look_in_any_order(self):
        table = Table.read("lamps a b c\nlook x c a b\nlook y b a")
        self.assertEqual([("a", "b", "c"), ("a", "b")], [table.shown("x"), table.shown("y")])
        self.assertEqual("lamps a b c\nlook x a b c\nlook y a b", str(table))

    def test_words_of_the_text_may_be_names(self):
        table = Table(["look", "lamps"], [("lamps", ["look"]), ("look", ["lamps"])])
        self.assertEqual(table, Table.read("lamps look lamps\nlook lamps look\nlook look lamps"))

    def test_the_empty_text(self):
        self.assert_line(1, Table.read, "")

    def test_a_wrong_first_word(self):
        for row in [" ", "lamp a", "Lamps a", "lampsa", "look x", "a lamps", "\\lamps", "lamps\\a"]:
            with self.subTest(row):
                self.assert_line(1, Table.read, row)
                self.assert_line(1, Table.read, row + "\nlook x")

    def test_a_wrong_first_word_of_a_look(self):
        for row in ["", " ", "looks x", "Look x", "lamps a", "x", "lookx", "a look x"]:
            with self.subTest(row):
                self.assert_line(2, Table.read, "lamps a\n" + row)
                self.assert_line(3, Table.read, "lamps a\nlook y a\n" + row + "\nlook z")

    def test_a_look_without_a_name(self):
        self.assert_line(2, Table.read, "lamps a\nlook")
        self.assert_line(2, Table.read, "lamps a\nlook ")
        self.assert_line(3, Table.read, "lamps a\nlook x\nlook\nlook y")

    def test_a_newline_at_the_end(self):
        self.assert_line(2, Table.read, "lamps\n")
        self.assert_line(2, Table.read, "lamps a\n")
        self.assert_line(3, Table.read, "lamps a\nlook x a\n")

    def test_newlines_in_a_row_and_at_the_beginning(self):
        self.assert_line(1, Table.read, "\nlamps a")
        self.assert_line(1, Table.read, "\n")
        self.assert_line(2, Table.read, "lamps a\n\nlook x")

    def test_spaces_make_empty_words(self):
        for row in [" lamps", "lamps ", "lamps  a", "lamps a ", " lamps a"]:
            with self.subTest(row):
                self.assert_line(1, Table.read, row + "\nlook x")
        for row in [" look x", "look x ", "look  x", "look x  a", "look x a ", " look x a", "look x a  b"]:
            with self.subTest(row):
                self.assert_line(2, Table.read, "lamps a b\n" + row)

    def test_errors_of_the_lamps(self):
        for row in ["lamps A", "lamps a a", "lamps abcdefghijklm", "lamps a-b", "lamps a,b"]:
            with self.subTest(row):
                self.assert_line(1, Table.read, row)
                self.assert_line(1, Table.read, row + "\nlook x q")

    def test_errors_of_a_look(self):
        for row in ["look X", "look y", "look abcdefghijklm", "look x q", "look x a a", "look x A", "look x x"]:
            with self.subTest(row):
                self.assert_line(3, Table.read, "lamps a b\nlook y b\n" + row)
                self.assert_line(3, Table.read, "lamps a b\nlook y b\n" + row + "\nlook y")

    def test_the_first_wrong_line_counts(self):
        self.assert_line(2, Table.read, "lamps a\nlook x q\nlook X\n")
        self.assert_line(1, Table.read, "lamp\nlook x q")
        self.assert_line(3, Table.read, "lamps a\nlook x\nlook x\nlooks")

    def test_24_and_25(self):
        lamps = " ".join(["lamps", *names(24)])
        looks = ["look " + name for name in names(24, "x")]
        self.assertEqual(24, len(Table.read("\n".join([lamps, *looks])).lamps))
        self.assertEqual(24, len(Table.read("\n".join([lamps, *looks]))))
        self.assert_line(1, Table.read, lamps + " n24")
        self.assert_line(1, Table.read, "\n".join([lamps + " n24", *looks]))
        self.assert_line(26, Table.read, "\n".join([lamps, *looks, "look y"]))
        self.assert_line(26, Table.read, "\n".join([lamps, *looks, "look y", "look z"]))

    def test_a_wrong_line_comes_ahead_of_too_many_looks(self):
        looks = ["look " + name for name in names(30, "x")]
        self.assert_line(5, Table.read, "\n".join(["lamps", *looks[:3], "look x0", *looks[4:]]))

    def test_every_short_text(self):
        # Each text of few words is read exactly if it is what a table writes.
        words = ["lamps", "look", "a", " ", "\n"]
        for many in range(6):
            for parts in product(words, repeat=many):
                text = "".join(parts)
                try:
                    self.assertEqual(text, str(Table.read(text)))
                except DimmerError as error:
                    self.assertEqual("InvalidLine", error.__class__.__name__)
                    self.assertLessEqual(1, error.line)
                    self.assertLessEqual(error.line, 1 + text.count("\n"))


if __name__ == "__main__":
    unittest.main()
