"""Promises 1 and 5, and the calls of a table that the interface lists."""

import unittest

from dimmerlog.errors import DuplicateName, InvalidName, UnknownName
from dimmerlog.tables import Table
from tests.cases import DimmerCase
from tests.values import UNKNOWN_NAMES, Pretender, names


def sample():
    return Table(["b", "a", "c"], [("z", ["a", "b"]), ("x", ["c"]), ("y", ["b", "a"]), ("w", [])])


class Calls(DimmerCase):
    def test_lamps_and_looks_keep_their_order(self):
        table = sample()
        self.assertEqual((("b", "a", "c"), ("z", "x", "y", "w")), (table.lamps, table.looks))
        self.assertIs(tuple, table.lamps.__class__)
        self.assertIs(tuple, table.looks.__class__)

    def test_tuples_are_taken_as_lists_are(self):
        lamps = ("b", "a", "c")
        looks = (("z", ("a", "b")), ("x", ("c",)), ("y", ("b", "a")), ("w", ()))
        self.assertEqual(sample(), Table(lamps, looks))

    def test_item(self):
        table = sample()
        found = [[table[lamp, look] for lamp in table.lamps] for look in table.looks]
        self.assertEqual(
            [[True, True, False], [False, False, True], [True, True, False], [False] * 3], found)
        self.assertIs(True, table["a", "z"])
        self.assertIs(False, table["a", "x"])

    def test_number_of_looks(self):
        self.assertEqual([4, 0, 1], [len(sample()), len(Table(["a", "b"], [])), len(Table([], [("x", [])]))])

    def test_iteration_is_not_offered(self):
        self.assertRaises(TypeError, list, sample())

    def test_shown_has_the_order_of_the_table(self):
        table = sample()
        self.assertEqual([("b", "a"), ("c",), ("b", "a"), ()], [table.shown(look) for look in table.looks])

    def test_seen_has_the_order_of_the_table(self):
        table = sample()
        self.assertEqual([("z", "y"), ("z", "y"), ("x",)], [table.seen(lamp) for lamp in table.lamps])

    def test_rows(self):
        self.assertEqual([("z", ("b", "a")), ("x", ("c",)), ("y", ("b", "a")), ("w", ())], sample().rows())
        self.assertEqual([], Table(["a"], []).rows())

    def test_without(self):
        self.assertEqual(
            Table(["b", "c"], [("z", ["b"]), ("x", ["c"]), ("y", ["b"]), ("w", [])]), sample().without("a"))
        self.assertEqual(
            Table(["a"], [("z", ["a"]), ("x", []), ("y", ["a"]), ("w", [])]), sample().without("c", "b"))
        self.assertEqual(Table([], [(look, []) for look in "zxyw"]), sample().without("a", "b", "c"))
        self.assertEqual(sample(), sample().without())

    def test_without_a_lamp_twice(self):
        self.assertEqual(sample().without("a"), sample().without("a", "a"))
        self.assertEqual(sample().without("a"), sample().without(*["a"] * 30))

    def test_only(self):
        lamps = ["b", "a", "c"]
        self.assertEqual(Table(lamps, [("x", ["c"])]), sample().only("x"))
        self.assertEqual(Table(lamps, [("z", ["b", "a"]), ("y", ["b", "a"])]), sample().only("y", "z"))
        self.assertEqual(Table(lamps, []), sample().only())
        self.assertEqual(sample(), sample().only("w", "x", "y", "z"))

    def test_only_a_look_twice(self):
        self.assertEqual(sample().only("x", "w"), sample().only("w", "x", "w"))

    def test_with_look(self):
        table = Table(["a", "b"], [("x", ["a"])])
        self.assertEqual(Table(["a", "b"], [("x", ["a"]), ("y", ["a", "b"])]), table.with_look("y", "b", "a"))
        self.assertEqual(Table(["a", "b"], [("x", ["a"]), ("a", [])]), table.with_look("a"))

    def test_errors_of_with_look(self):
        table = Table(["a", "b"], [("x", ["a"])])
        self.assert_names(InvalidName, "Y", table.with_look, "Y", "q")
        self.assert_names(DuplicateName, "x", table.with_look, "x", "q")
        self.assert_names(UnknownName, "q", table.with_look, "y", "q", "a", "a")
        self.assert_names(DuplicateName, "a", table.with_look, "y", "a", "a", "q")
        full = Table([], [(name, []) for name in names(24, "x")])
        self.assert_limit(24, full.with_look, "X", "q")
        self.assertEqual(24, len(full.only(*full.looks[1:]).with_look("y")))

    def test_alike(self):
        table = sample()
        self.assertIs(True, table.alike("z", "y"))
        self.assertIs(True, table.alike("x", "x"))
        self.assertIs(False, table.alike("x", "w"))
        self.assertIs(False, table.alike("z", "x"))
        self.assertIs(False, sample().with_look("v", "a").alike("v", "z"))

    def test_groups(self):
        self.assertEqual([("z", "y"), ("x",), ("w",)], sample().groups)
        self.assertEqual([], Table(["a"], []).groups)
        self.assertEqual([("y", "x")], Table([], [("y", []), ("x", [])]).groups)

    def test_groups_stand_in_the_order_of_their_first_looks(self):
        looks = [("x", []), ("c", ["a"]), ("w", []), ("b", ["a"]), ("a", ["a", "b"]), ("v", [])]
        self.assertEqual([("x", "w", "v"), ("c", "b"), ("a",)], Table(["a", "b"], looks).groups)


class Equality(DimmerCase):
    def test_equal_tables(self):
        self.assertTrue(sample() == sample())
        self.assertFalse(sample() != sample())
        self.assertTrue(Table([], []) == Table((), ()))
        self.assertTrue(Table(["a", "b"], [("x", ["a", "b"])]) == Table(["a", "b"], [("x", ["b", "a"])]))

    def test_other_lamps_looks_or_lamps_of_a_look(self):
        table = Table(["a", "b"], [("x", ["a"]), ("y", ["a", "b"])])
        others = [
            Table(["b", "a"], [("x", ["a"]), ("y", ["a", "b"])]),
            Table(["a", "b"], [("y", ["a", "b"]), ("x", ["a"])]),
            Table(["a", "b"], [("x", ["b"]), ("y", ["a", "b"])]),
            Table(["a", "b"], [("x", ["a"]), ("z", ["a", "b"])]),
            Table(["a", "b"], [("x", ["a"])]),
            Table(["a", "b", "c"], [("x", ["a"]), ("y", ["a", "b"])]),
        ]
        for other in others:
            with self.subTest(str(other)):
                self.assertFalse(table == other)
                self.assertTrue(table != other)

    def test_tables_without_looks_differ_in_their_lamps(self):
        self.assertFalse(Table(["a"], []) == Table(["b"], []))
        self.assertFalse(Table(["a", "b"], []) == Table(["b", "a"], []))
        self.assertFalse(Table([], [("x", []), ("y", [])]) == Table([], [("y", []), ("x", [])]))

    def test_no_other_value_is_equal(self):
        others = [None, True, 0, "lamps", (), [], {}, ((), ()), object(), str(sample()), sample().rows(),
                  Pretender()]
        for other in others:
            with self.subTest(str(other)[:20]):
                self.assertIs(False, sample() == other)
                self.assertIs(False, Table([], []) == other)


class Unknown(DimmerCase):
    def setUp(self):
        self.table = Table(["a", "b"], [("x", ["a"]), ("y", ["a", "b"])])

    def refuse(self, call, *args, at=0, **named):
        """The call raises UnknownName for the argument at this place."""
        self.assert_names(UnknownName, args[at], call, *args, **named)

    def item(self, lamp, look):
        return self.table[lamp, look]

    def test_each_call_takes_any_value_for_a_name(self):
        table = self.table
        for name in UNKNOWN_NAMES:
            with self.subTest(str(name)[:20]):
                self.refuse(self.item, name, "x")
                self.refuse(self.item, "a", name, at=1)
                self.refuse(table.shown, name)
                self.refuse(table.seen, name)
                self.refuse(table.without, "a", name, at=1)
                self.refuse(table.only, "x", name, at=1)
                self.refuse(table.with_look, "z", name, at=1)
                self.refuse(table.alike, name, "x")
                self.refuse(table.alike, "x", name, at=1)
                self.refuse(table.exchanged, name, "a")
                self.refuse(table.exchanged, "a", name, at=1)
                if name is not None:
                    self.assert_names(UnknownName, name, table.exchanged, "a", "b", since=name)

    def test_the_first_unknown_name_counts(self):
        table = self.table
        self.refuse(self.item, "p", "q")
        self.refuse(self.item, ["p"], ["q"])
        self.refuse(table.without, "p", "q")
        self.refuse(table.without, "b", ["q"], "a", "p", at=1)
        self.refuse(table.only, "p", "q")
        self.refuse(table.only, "y", ["q"], "x", "p", at=1)
        self.refuse(table.with_look, "z", "b", "p", "q", at=2)
        self.refuse(table.alike, "p", "q")
        self.refuse(table.exchanged, "p", "q")

    def test_equal_unknown_names_are_unknown(self):
        self.refuse(self.table.alike, "q", "q")
        self.refuse(self.table.exchanged, "q", "q")
        self.refuse(self.table.without, "q", "q")

    def test_a_lamp_is_no_look_and_a_look_is_no_lamp(self):
        table = self.table
        self.refuse(self.item, "x", "a")
        self.refuse(self.item, "a", "b", at=1)
        self.refuse(table.shown, "a")
        self.refuse(table.seen, "x")
        self.refuse(table.without, "x")
        self.refuse(table.only, "a")
        self.refuse(table.with_look, "z", "x", at=1)
        self.refuse(table.alike, "a", "x")
        self.refuse(table.exchanged, "x", "a")
        self.assert_names(UnknownName, "a", table.exchanged, "a", "b", since="a")

    def test_names_that_are_gone_are_unknown(self):
        self.refuse(self.table.without("a").seen, "a")
        self.refuse(self.table.only("x").shown, "y")

    def test_a_table_without_names(self):
        self.refuse(Table([], []).shown, "x")
        self.refuse(Table([], []).seen, "a")


class Copies(DimmerCase):
    def test_arguments_stay_as_they_are(self):
        lamps = ["b", "a"]
        looks = [("x", ["a", "b"]), ("y", [])]
        Table(lamps, looks)
        self.assertEqual((["b", "a"], [("x", ["a", "b"]), ("y", [])]), (lamps, looks))

    def test_later_changes_to_arguments_have_no_effect(self):
        lamps = ["b", "a"]
        shown = ["a"]
        pair = ["x", shown]
        looks = [pair]
        table = Table(lamps, looks)
        lamps.append("c")
        shown.append("b")
        pair[0] = "z"
        looks.append(("y", []))
        self.assertEqual(Table(["b", "a"], [("x", ["a"])]), table)
        self.assertEqual((("b", "a"), ("x",), ("a",)), (table.lamps, table.looks, table.shown("x")))

    def test_returned_lists_belong_to_the_caller(self):
        table = sample()
        rows = table.rows()
        rows.clear()
        groups = table.groups
        groups[0] = ("w",)
        groups.append(("v",))
        self.assertEqual(4, len(table.rows()))
        self.assertEqual([("z", "y"), ("x",), ("w",)], table.groups)
        self.assertEqual(sample(), table)

    def test_tuples_stand_where_tuples_are_promised(self):
        table = sample()
        for found in [table.shown("z"), table.seen("a"), table.rows()[0], table.rows()[0][1], table.groups[0]]:
            self.assertIs(tuple, found.__class__)
        self.assertIs(list, table.rows().__class__)
        self.assertIs(list, table.groups.__class__)

    def test_calls_and_operators_leave_the_table_as_it_is(self):
        table = sample()
        table.without("a")
        table.only("x")
        table.with_look("v", "a")
        table.exchanged("a", "c")
        table.exchanged("a", "c", since="y")
        self.assertEqual(sample(), table)
        other = sample().without("a")
        self.assertFalse(table == other)
        self.assertEqual((sample(), sample().without("a")), (table, other))


if __name__ == "__main__":
    unittest.main()
