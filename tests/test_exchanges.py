"""Promises 1, 24 and 43, its second half: exchanges."""

import unittest
from itertools import combinations

from dimmerlog.errors import UnknownName
from dimmerlog.notes import Notes
from dimmerlog.sliders import exchanges
from dimmerlog.solving import fits
from dimmerlog.tables import Table
from tests import plain
from tests.cases import DimmerCase
from tests.values import names

TEXT = "lamps a b\nlook x a\nlook y a b\nlook z b"


def plain_exchanges(table, notes):
    """Return all exchanges by a listing of all pairs of lamps, all looks and all orders."""
    lamps = sorted(table.lamps)
    return [(first, second, since) for first in lamps for second in lamps if first < second for since in table.looks
            if plain.orders_of(table.exchanged(first, second, since=since), notes.pairs)]


class Exchanges(DimmerCase):
    def test_against_a_plain_listing(self):
        for seed, table in enumerate(plain.small_tables()):
            for notes in plain.some_notes(table, seed)[seed % 4::4]:
                if len(table.looks) < 6 and len(table.lamps) < 6:
                    with self.subTest(str(table), notes=str(notes)):
                        self.assertEqual(plain_exchanges(table, notes), exchanges(table, notes))

    def test_no_order_before_and_an_order_after(self):
        table = Table.read("lamps b a\nlook w a\nlook x\nlook y b\nlook z a b")
        self.assertEqual([("a", "b", "w"), ("a", "b", "x"), ("a", "b", "y"), ("a", "b", "z")], exchanges(table))
        table = Table.read("lamps a b c\nlook u a b c\nlook v a b\nlook w b c\nlook x c\nlook y a\nlook z a c")
        self.assertEqual(plain_exchanges(table, Notes()), exchanges(table))

    def test_triples_ascend_and_looks_stand_in_the_order_of_the_table(self):
        table = Table(["n9", "n10"], [("z", []), ("x", ["n9"]), ("y", [])])
        self.assertEqual([("n10", "n9", "z"), ("n10", "n9", "x"), ("n10", "n9", "y")], exchanges(table))
        table = Table([*"cab"], [("y", ["a"]), ("x", ["b"])])
        right = [(first, second, since) for first, second in ["ab", "ac", "bc"] for since in "yx"]
        self.assertEqual(right, exchanges(table))
        for found in exchanges(table):
            self.assertIs(tuple, found.__class__)

    def test_notes(self):
        table = Table.read("lamps a b\nlook x a\nlook y b\nlook z a b\nlook w b")
        notes = Notes(("x", "y"), ("y", "z"))
        found = exchanges(table, notes)
        self.assertEqual(plain_exchanges(table, notes), found)
        self.assertNotEqual(exchanges(table), found)
        self.assertEqual([], exchanges(table, notes + Notes(("z", "x"))))

    def test_no_looks(self):
        self.assertEqual([], exchanges(Table([], [])))
        self.assertEqual([], exchanges(Table(["a", "b", "c"], [])))

    def test_no_lamps_and_one_lamp(self):
        self.assertEqual([], exchanges(Table([], [("x", []), ("y", [])])))
        self.assertEqual([], exchanges(Table(["a"], [("x", ["a"]), ("y", [])])))

    def test_one_look(self):
        self.assertEqual([("a", "b", "x")], exchanges(Table(["b", "a"], [("x", ["b"])])))

    def test_no_notes_are_as_none(self):
        for table in plain.read_all(plain.WITH_ORDER + plain.WITHOUT_ORDER):
            self.assertEqual(exchanges(table, Notes()), exchanges(table))
            self.assertEqual(exchanges(table, None), exchanges(table, notes=None))

    def test_unknown_looks(self):
        contrary = Notes(("x", "y"), ("y", "x"))
        for text in [TEXT, plain.WITHOUT_ORDER[0]]:
            table = Table.read(text)
            for notes in [Notes(("q", "x")), contrary + Notes(("x", "q"), ("y", "p")), Notes(("q", "p"))]:
                self.assertEqual("q", self.assert_raises(UnknownName, exchanges, table, notes).name)
        for table in [Table([], []), Table(["a"], []), Table([], [("y", [])])]:
            self.assertEqual("x", self.assert_raises(UnknownName, exchanges, table, Notes(("x", "y"))).name)

    def test_24_looks_and_24_lamps(self):
        looks, lamps = names(24, "x"), names(24)
        table = Table(lamps, [(look, lamps[max(0, at - 1):at + 1]) for at, look in enumerate(looks)])
        changed = table.exchanged("n3", "n17", since="x9")
        found = exchanges(changed)
        self.assertIn(("n17", "n3", "x9"), found)
        triples = [(first, second, since) for first, second in combinations(sorted(lamps), 2) for since in looks]
        self.assertEqual([triple for triple in triples if triple in found], found)
        for first, second, since in triples[::50] + found[::20]:
            right = fits(changed.exchanged(first, second, since=since))
            self.assertIs(right, (first, second, since) in found)

    def test_arguments_stay_as_they_are_and_the_list_belongs_to_the_caller(self):
        table, notes = Table.read(TEXT), Notes(("x", "z"))
        found = exchanges(table, notes)
        before = list(found)
        found.clear()
        self.assertEqual((before, TEXT, "x < z"), (exchanges(table, notes), str(table), str(notes)))


if __name__ == "__main__":
    unittest.main()
