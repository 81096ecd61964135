"""Promises 1, 5, 24, 28 and 35 to 37: further looks."""

import unittest
from itertools import chain, combinations

from dimmerlog.errors import DuplicateName, NoOrder, UnknownName
from dimmerlog.further import may_share, may_show, next_shows, prospects
from dimmerlog.notes import Notes
from dimmerlog.solving import solve
from dimmerlog.tables import Table
from tests import listing, plain
from tests.cases import DimmerCase
from tests.values import UNKNOWN_NAMES, names

TEXT = "lamps a b\nlook x a\nlook y a b\nlook z b"
CONTRARY = Notes(("x", "y"), ("y", "x"))


def blank(many, lamps=()):
    """Return a table of so many looks that show no lamp."""
    return Table(lamps, [(look, []) for look in names(many, "x")])


def choices(lamps):
    """Return all ascending tuples of the lamps, ascending."""
    lamps = sorted(lamps)
    return sorted(chain.from_iterable(combinations(lamps, many) for many in range(len(lamps) + 1)))


def small():
    """Return pairs of a table with few looks and notes."""
    found = []
    for seed, table in enumerate(plain.small_tables()):
        if len(table.looks) < 6:
            found += [(table, notes) for notes in plain.some_notes(table, seed)[seed % 4::4]]
    return found


class MayShow(DimmerCase):
    def test_against_a_plain_listing(self):
        many = {True: 0, False: 0}
        for table, notes in small()[::2]:
            for lamps in choices(table.lamps)[:12]:
                right = plain.orders_of(table.with_look("new", *lamps), notes.pairs) != []
                with self.subTest(str(table), notes=str(notes), lamps=lamps):
                    self.assertIs(right, may_show(table, notes, lamps))
                    self.assertIs(right, may_show(table, notes, list(lamps[::-1])))
                    many[right] += 1
        self.assertGreater(min(many.values()), 50)

    def test_no_looks_and_no_lamps(self):
        self.assertIs(True, may_show(Table([], []), None, []))
        self.assertIs(True, may_show(Table(["a", "b"], []), Notes(), ("b", "a")))

    def test_one_look(self):
        table = Table(["a", "b"], [("x", ["a"])])
        self.assertEqual([True] * 4, [may_show(table, None, lamps) for lamps in choices("ab")])

    def test_a_table_of_which_no_order_fits(self):
        for text in plain.WITHOUT_ORDER:
            table = Table.read(text)
            for lamps in choices(table.lamps)[:8]:
                self.assertIs(False, may_show(table, None, lamps))
        self.assertIs(False, may_show(Table.read(TEXT), CONTRARY, []))

    def test_the_name_of_the_further_look_is_new(self):
        looks = ["new0", "new1", "new", "new2", "x", "next", "further", "look", "a", "0", "new3", "new4", "new10"]
        table = Table(["a"], [(look, ["a"]) for look in looks])
        self.assertIs(True, may_show(table, Notes(("new0", "new1"), ("x", "new2")), ["a"]))
        self.assertIs(True, may_show(blank(23), None, []))
        table = Table(["a"], [(look, []) for look in names(24, "new")])
        self.assert_limit(24, may_show, table, None, ["a"])
        self.assertIs(True, may_show(table.only(*table.looks[:-1]), None, ["a"]))

    def test_24_looks(self):
        table = blank(24, "a")
        self.assert_limit(24, may_show, table, None, [])
        self.assert_limit(24, may_show, table, Notes(("q", "x0")), ["q", "a", "a"])
        self.assertIs(True, may_show(table.only(*table.looks[1:]), None, ["a"]))

    def test_unknown_lamps(self):
        table = Table.read(TEXT)
        for name in UNKNOWN_NAMES:
            with self.subTest(str(name)[:20]):
                self.assert_names(UnknownName, name, may_show, table, None, [name])
                self.assert_names(UnknownName, name, may_show, table, None, ("b", name))
        self.assert_names(UnknownName, "x", may_show, table, None, ["x"])

    def test_a_lamp_twice(self):
        self.assertEqual("a", self.assert_raises(DuplicateName, may_show, Table.read(TEXT), None, ["a", "a"]).name)
        self.assertEqual("b", self.assert_raises(DuplicateName, may_show, Table.read(TEXT), None, "bab").name)

    def test_errors_in_their_order(self):
        notes = Notes(("x", "q"), ("x", "y"), ("y", "x"))
        for text in [TEXT, plain.WITHOUT_ORDER[0]]:
            table = Table.read(text)
            self.assert_names(UnknownName, "r", may_show, table, notes, ["a", "r", "a"])
            self.assertEqual("a", self.assert_raises(DuplicateName, may_show, table, notes, ["a", "a", "r"]).name)
            self.assertEqual("q", self.assert_raises(UnknownName, may_show, table, notes, ["a"]).name)

    def test_notes_are_checked_against_the_table_as_it_is_passed(self):
        table = Table(["a"], [("x", [])])
        for name in ["new", "new0", "new1", "a", "next"]:
            for notes in [Notes((name, "x")), Notes(("x", name))]:
                self.assertEqual(name, self.assert_raises(UnknownName, may_show, table, notes, ["a"]).name)

    def test_arguments_stay_as_they_are(self):
        table, notes, lamps = Table.read(TEXT), Notes(("x", "y")), ["b", "a"]
        may_show(table, notes, lamps)
        self.assertEqual((TEXT, "x < y", ["b", "a"]), (str(table), str(notes), lamps))


class NextShows(DimmerCase):
    def test_against_a_plain_listing(self):
        for table, notes in small():
            with self.subTest(str(table), notes=str(notes)):
                if len(table.lamps) < 4:
                    right = [lamps for lamps in choices(table.lamps)
                             if plain.orders_of(table.with_look("new", *lamps), notes.pairs)]
                else:
                    right = [lamps for lamps in choices(table.lamps) if may_show(table, notes, lamps)]
                self.assertEqual(right, list(next_shows(table, notes)))

    def test_a_table_without_looks(self):
        self.assertEqual([()], list(next_shows(Table([], []))))
        self.assertEqual([(), ("a",), ("a", "b"), ("b",)], list(next_shows(Table(["b", "a"], []))))
        right = [(), ("n1",), ("n1", "n10"), ("n1", "n10", "n9"), ("n1", "n9"), ("n10",), ("n10", "n9"), ("n9",)]
        self.assertEqual(right, list(next_shows(Table(["n9", "n10", "n1"], []))))

    def test_words(self):
        found = next_shows(Table.read("lamps b a c\nlook x a\nlook y a b\nlook z b"))
        right = "/a/ab/abc/ac/b/bc/c"
        self.assertEqual(right, "/".join("".join(lamps) for lamps in found))
        found = next_shows(Table.read("lamps a b\nlook w a\nlook x a b\nlook y b\nlook z"))
        self.assertEqual([(), ("a",), ("a", "b"), ("b",)], list(found))
        found = next_shows(Table.read("lamps a b c\nlook x a b\nlook y b c"))
        self.assertNotIn(("a", "c"), list(found))

    def test_6_and_7_lamps(self):
        self.assertEqual(64, len(list(next_shows(Table(names(6), [])))))
        found = next_shows(Table(names(7), []))
        self.assert_limit(6, next, found)
        found = next_shows(Table(names(7), [(look, []) for look in names(24)]), Notes(("q", "n0")))
        self.assert_limit(6, next, found)

    def test_24_looks(self):
        self.assert_limit(24, next, next_shows(blank(24)))
        self.assert_limit(24, next, next_shows(blank(24, "abcdef"), Notes(("q", "x0"))))
        self.assertEqual([()], list(next_shows(blank(23))))

    def test_a_note_with_an_unknown_look(self):
        for text in [TEXT, plain.WITHOUT_ORDER[0]]:
            found = next_shows(Table.read(text), Notes(("x", "q"), ("p", "x")) + CONTRARY)
            self.assertEqual("p", self.assert_raises(UnknownName, next, found).name)

    def test_no_order(self):
        for text in plain.WITHOUT_ORDER:
            self.assertEqual([], list(next_shows(Table.read(text))))
        self.assertEqual([], list(next_shows(Table.read(TEXT), CONTRARY)))

    def test_each_tuple_is_a_tuple(self):
        for lamps in next_shows(Table.read(TEXT)):
            self.assertIs(tuple, lamps.__class__)


class RelationErrors(DimmerCase):
    """The errors of `relation`, which prospects and may_share raise in the same order."""

    def test_unknown_looks(self):
        for call in [prospects, may_share]:
            for name in UNKNOWN_NAMES:
                with self.subTest(str(name)[:20]):
                    self.assert_names(UnknownName, name, call, Table.read(TEXT), None, name, "x")
                    self.assert_names(UnknownName, name, call, Table.read(TEXT), None, "x", name)
                    self.assert_names(UnknownName, name, call, Table.read(TEXT), None, name, name)

    def test_errors_in_their_order(self):
        unknown = CONTRARY + Notes(("q", "x"), ("x", "p"))
        for call in [prospects, may_share]:
            for text in [TEXT, plain.WITHOUT_ORDER[0]]:
                table = Table.read(text)
                self.assert_names(UnknownName, "r", call, table, unknown, "r", "s")
                self.assert_names(UnknownName, "s", call, table, unknown, "x", "s")
                self.assert_note("x", "x", call, table, unknown, "x", "x")
                self.assert_note("x", "x", call, table, CONTRARY, "x", "x")
                self.assertEqual("q", self.assert_raises(UnknownName, call, table, unknown, "x", "z").name)
                self.assert_raises(NoOrder, call, table, CONTRARY, "x", "z")

    def test_papers(self):
        for call in [prospects, may_share]:
            for seed, table in enumerate(plain.read_all(plain.WITHOUT_ORDER + plain.WITH_ORDER)):
                for notes in plain.some_notes(table, seed):
                    solution = solve(table, notes)
                    if not solution:
                        papers = self.assert_no_order(call, table, notes, *table.looks[:2])
                        self.assertEqual((solution.bar, solution.ring), papers)


class Prospects(DimmerCase):
    def test_against_a_plain_listing(self):
        words = []
        for table, notes in small():
            ways = listing.settings_of(table, notes)
            if ways:
                for first, second in plain.pairs_of(table)[::2]:
                    with self.subTest(str(table), notes=str(notes), first=first, second=second):
                        right = listing.words_between(table, ways, first, second)
                        found = prospects(table, notes, first, second)
                        self.assertEqual(right, found)
                        self.assertEqual(list(table.lamps), list(found))
                        words += found.values()
        for word in ["on", "off", "open"]:
            self.assertGreater(words.count(word), 50)

    def test_no_lamps(self):
        self.assertEqual({}, prospects(blank(2), None, "x0", "x1"))

    def test_a_lamp_that_no_look_shows(self):
        table = Table.read("lamps c a\nlook x\nlook y\nlook z a")
        self.assertEqual({"c": "open", "a": "open"}, prospects(table, None, "x", "y"))
        self.assertEqual({"c": "open", "a": "off"}, prospects(table, Notes(("x", "z"), ("y", "z")), "x", "y"))

    def test_notes(self):
        table = Table([*"abc"], [("x", ["a"]), ("y", ["a"]), ("z", ["b"]), ("w", [])])
        self.assertEqual({"a": "on", "b": "off", "c": "open"}, prospects(table, None, "x", "y"))
        self.assertEqual({"a": "open", "b": "open", "c": "open"}, prospects(table, None, "y", "w"))
        notes = Notes(("z", "y"), ("y", "w"))
        self.assertEqual({"a": "open", "b": "off", "c": "open"}, prospects(table, notes, "y", "w"))
        self.assertEqual({"a": "open", "b": "off", "c": "open"}, prospects(table, notes, "w", "y"))

    def test_24_looks_and_24_lamps(self):
        looks, lamps = names(24, "x"), names(24)
        table = Table(lamps, [(look, [lamp]) for look, lamp in zip(looks, lamps)])
        found = prospects(table, Notes(("x0", "x1"), ("x1", "x2")), "x0", "x1")
        right = {lamp: "open" for lamp in lamps}
        self.assertEqual({**right, "n2": "off"}, found)

    def test_a_dict_that_is_returned_belongs_to_the_caller(self):
        table = Table.read(TEXT)
        prospects(table, None, "x", "y").clear()
        self.assertEqual({"a": "on", "b": "open"}, prospects(table, None, "x", "y"))
        self.assertEqual(TEXT, str(table))


class MayShare(DimmerCase):
    def test_against_a_plain_listing(self):
        many = {True: 0, False: 0}
        for table, notes in small():
            ways = listing.settings_of(table, notes)
            if ways:
                for first, second in plain.pairs_of(table):
                    with self.subTest(str(table), notes=str(notes), first=first, second=second):
                        right = any(first in looks and second in looks for places in ways for looks in places)
                        self.assertIs(right, may_share(table, notes, first, second))
                        many[right] += 1
        self.assertGreater(min(many.values()), 50)

    def test_with_the_words_of_the_promise(self):
        for table, notes in small():
            orders = plain.orders_of(table, notes.pairs)
            if orders:
                for first, second in plain.pairs_of(table)[::3]:
                    right = any(self.may_share_in(table, notes, order, first, second) for order in orders)
                    self.assertIs(right, may_share(table, notes, first, second))

    def may_share_in(self, table, notes, order, first, second):
        low, high = sorted([order.index(first), order.index(second)])
        looks = order[low:high + 1]
        return all(table.alike(first, look) for look in looks) and not any(
            (before, after) in notes for before in looks for after in looks)

    def test_looks_that_show_the_same_lamps(self):
        table = Table.read("lamps a\nlook w a\nlook x a\nlook y a\nlook z")
        self.assertIs(True, may_share(table, None, "w", "x"))
        self.assertIs(True, may_share(table, Notes(("w", "z")), "y", "w"))
        self.assertIs(False, may_share(table, None, "w", "z"))

    def test_with_a_note_between_them(self):
        table = Table.read("lamps a\nlook w a\nlook x a\nlook y a\nlook z")
        for pair in [("w", "x"), ("x", "w")]:
            self.assertIs(False, may_share(table, Notes(pair), "w", "x"))
            self.assertIs(True, may_share(table, Notes(pair), "w", "y"))
        notes = Notes(("w", "x"), ("x", "y"))
        self.assertIs(False, may_share(table, notes, "w", "y"))
        self.assertIs(False, may_share(table, notes, "y", "w"))

    def test_another_look_that_must_stand_between(self):
        table = Table([], [(look, []) for look in "wxyz"])
        self.assertIs(False, may_share(table, Notes(("w", "x"), ("x", "y"), ("y", "z")), "w", "z"))
        table = Table.read("lamps a b\nlook x\nlook y a\nlook z")
        self.assertIs(True, may_share(table, None, "x", "z"))
        self.assertIs(False, may_share(table, Notes(("x", "y"), ("y", "z")), "x", "z"))

    def test_24_looks(self):
        table = blank(24, "a")
        self.assertIs(True, may_share(table, Notes(("x0", "x1"), ("x1", "x2")), "x0", "x3"))
        self.assertIs(False, may_share(table, Notes(("x0", "x1"), ("x1", "x2")), "x0", "x2"))


if __name__ == "__main__":
    unittest.main()
