"""Promises 1, 24 and 31 to 34: arrangements."""

import unittest

from dimmerlog.arranging import Arrangement, arrange
from dimmerlog.checking import arrangement_holds
from dimmerlog.errors import NoOrder, UnknownName
from dimmerlog.notes import Notes
from dimmerlog.solving import solve
from dimmerlog.tables import Table
from tests import plain
from tests.cases import DimmerCase
from tests.values import Pretender, names

TEXT = "lamps a b\nlook x a\nlook y a b\nlook z b"


def some():
    return Arrangement({"x": 1, "y": 2, "z": -3}, {"b": (2, 5), "a": (-3, 2), "c": None, "d": (2, 2)})


def plain_settings(table, notes, order):
    """Return the settings of promise 33, which are found from the front for each look anew."""
    settings = {}
    for at, look in enumerate(order):
        highest = max(settings.values(), default=0)
        there = [other for other in order[:at] if settings[other] == highest]
        share = there and all(
            table.shown(other) == table.shown(look) and (other, look) not in notes.pairs for other in there)
        settings[look] = highest if share else highest + 1
    return settings


def plain_stretches(table, settings):
    found = {}
    for lamp in table.lamps:
        at = [settings[look] for look in table.looks if table[lamp, look]]
        found[lamp] = (min(at), max(at)) if at else None
    return found


class Calls(unittest.TestCase):
    def test_the_lamps_that_glow(self):
        glowing = {-4: "", -3: "a", -2: "a", 0: "a", 1: "a", 2: "abd", 3: "b", 5: "b", 6: "", 10 ** 30: ""}
        for setting, lamps in glowing.items():
            self.assertEqual(tuple(lamps), some()(setting))
            self.assertIs(tuple, some()(setting).__class__)

    def test_ascending_as_strings(self):
        stretches = {lamp: (0, 0) for lamp in ["n9", "n10", "b", "a", "n1"]}
        self.assertEqual(("a", "b", "n1", "n10", "n9"), Arrangement({}, stretches)(0))

    def test_no_lamps(self):
        self.assertEqual((), Arrangement({}, {})(0))
        self.assertEqual((), Arrangement({"x": 0}, {"a": None})(0))


class Operators(unittest.TestCase):
    def test_moving_up(self):
        for found in [some() + 10, 10 + some()]:
            self.assertIs(Arrangement, found.__class__)
            self.assertEqual({"x": 11, "y": 12, "z": 7}, found.settings)
            self.assertEqual({"a": (7, 12), "b": (12, 15), "c": None, "d": (12, 12)}, found.stretches)

    def test_moving_by_any_integer(self):
        for many in [-7, -1, 0, 1, 10 ** 40]:
            for found in [some() + many, many + some()]:
                self.assertEqual({"x": 1 + many, "y": 2 + many, "z": many - 3}, found.settings)
                self.assertEqual((many - 3, many + 2), found.stretches["a"])
                self.assertEqual(some(), found + -many)
                for setting in range(-5, 8):
                    self.assertEqual(some()(setting), found(setting + many))

    def test_signs(self):
        found = -some()
        self.assertIs(Arrangement, found.__class__)
        self.assertEqual({"x": -1, "y": -2, "z": 3}, found.settings)
        self.assertEqual({"a": (-2, 3), "b": (-5, -2), "c": None, "d": (-2, -2)}, found.stretches)
        self.assertEqual(some(), --some())
        for setting in range(-7, 8):
            self.assertEqual(some()(setting), found(-setting))

    def test_nothing_to_move(self):
        empty = Arrangement({}, {})
        self.assertEqual([empty] * 3, [empty + 3, 3 + empty, -empty])

    def test_equality(self):
        self.assertIs(True, some() == some())
        self.assertIs(False, some() != some())
        self.assertIs(True, some() == Arrangement(
            {"z": -3, "y": 2, "x": 1}, {"d": (2, 2), "c": None, "b": (2, 5), "a": (-3, 2)}))
        settings, stretches = some().settings, some().stretches
        for other in [Arrangement({**settings, "x": 2}, stretches), Arrangement(settings, {**stretches, "c": (0, 0)}),
                      Arrangement({**settings, "w": 1}, stretches), Arrangement(settings, {**stretches, "e": None}),
                      Arrangement({}, stretches), Arrangement(settings, {}), Arrangement({}, {}), some() + 1, -some()]:
            self.assertIs(False, some() == other)
            self.assertIs(True, some() != other)

    def test_other_values_are_not_equal(self):
        settings, stretches = some().settings, some().stretches
        for other in [None, 0, "", settings, stretches, (settings, stretches), [], {}, Notes(), Table([], []),
                      Pretender()]:
            for arrangement in [some(), Arrangement({}, {})]:
                self.assertIs(False, arrangement == other)
                self.assertIs(True, arrangement != other)


class Unchanged(unittest.TestCase):
    def test_objects_copy_what_they_are_given(self):
        settings, stretches = {"x": 1}, {"a": (1, 1)}
        arrangement = Arrangement(settings, stretches)
        settings["x"] = 2
        stretches.clear()
        self.assertEqual(({"x": 1}, {"a": (1, 1)}), (arrangement.settings, arrangement.stretches))

    def test_operands_stay_as_they_are(self):
        first = some()
        results = [first + 1, 1 + first, -first, first + 0]
        first(2), first == results[0]
        self.assertEqual((some().settings, some().stretches), (first.settings, first.stretches))
        results[3].settings["x"] = 99
        results[3].stretches["a"] = None
        self.assertEqual(some(), first)

    def test_each_call_gives_dicts_of_its_own(self):
        table = Table.read(TEXT)
        first = arrange(table)
        first.settings.clear()
        first.stretches.clear()
        self.assertEqual(({"x": 1, "y": 2, "z": 3}, {"a": (1, 2), "b": (2, 3)}),
                         (arrange(table).settings, arrange(table).stretches))
        self.assertEqual(TEXT, str(table))


class Arrange(DimmerCase):
    def test_many_tables(self):
        for seed, table in enumerate(plain.small_tables()):
            for notes in plain.some_notes(table, seed)[seed % 3::2]:
                solution = solve(table, notes)
                with self.subTest(str(table), notes=str(notes)):
                    if solution:
                        found = arrange(table, notes)
                        settings = plain_settings(table, notes, solution.order)
                        self.assertEqual(settings, found.settings)
                        self.assertEqual(plain_stretches(table, settings), found.stretches)
                        self.assertIs(True, arrangement_holds(table, notes, found))
                    else:
                        papers = self.assert_no_order(arrange, table, notes)
                        self.assertEqual((solution.bar, solution.ring), papers)

    def test_no_looks(self):
        self.assertEqual(Arrangement({}, {}), arrange(Table([], [])))
        self.assertEqual(Arrangement({}, {"b": None, "a": None}), arrange(Table(["a", "b"], []), Notes()))

    def test_one_look_and_a_lamp_that_no_look_shows(self):
        table = Table(["a", "b"], [("x", ["b"])])
        self.assertEqual(Arrangement({"x": 1}, {"a": None, "b": (1, 1)}), arrange(table))

    def test_looks_that_share_a_setting(self):
        table = Table.read("lamps a\nlook y a\nlook w a\nlook z\nlook x a")
        self.assertEqual(Arrangement({"w": 1, "x": 1, "y": 1, "z": 2}, {"a": (1, 1)}), arrange(table))
        self.assertEqual({"w": 1, "x": 1, "y": 2, "z": 3}, arrange(table, Notes(("x", "y"))).settings)
        self.assertEqual({"w": 1, "x": 1, "y": 2, "z": 3}, arrange(table, Notes(("w", "y"))).settings)
        self.assertEqual({"w": 1, "x": 2, "y": 3, "z": 4}, arrange(table, Notes(("w", "x"), ("x", "y"))).settings)
        self.assertEqual({"w": 1, "x": 2, "y": 2, "z": 3}, arrange(table, Notes(("w", "x"))).settings)
        self.assertEqual({"z": 1, "w": 2, "x": 2, "y": 2}, arrange(table, Notes(("z", "y"))).settings)

    def test_a_note_between_looks_that_do_not_follow_each_other(self):
        table = Table([], [(look, []) for look in "vwxyz"])
        self.assertEqual({"v": 1, "w": 1, "x": 2, "y": 2, "z": 2}, arrange(table, Notes(("v", "x"))).settings)
        self.assertEqual({"v": 1, "w": 1, "x": 1, "y": 1, "z": 2}, arrange(table, Notes(("v", "z"))).settings)

    def test_the_least_order_is_used(self):
        self.assertEqual({"z": 1, "y": 2, "x": 3}, arrange(Table.read(TEXT), Notes(("z", "y"))).settings)

    def test_24_looks_and_24_lamps(self):
        looks, lamps = sorted(names(24, "x")), names(24)
        table = Table(lamps, [(look, lamps[max(0, at - 1):at + 1]) for at, look in enumerate(looks)])
        found = arrange(table, Notes((looks[23], looks[0])))
        self.assertEqual({look: 24 - at for at, look in enumerate(looks)}, found.settings)
        self.assertEqual((23, 24), found.stretches["n0"])
        self.assertEqual((1, 1), found.stretches["n23"])
        self.assertIs(True, arrangement_holds(table, Notes((looks[23], looks[0])), found))

    def test_errors_in_their_order(self):
        notes = Notes(("x", "y"), ("y", "x"), ("x", "q"), ("p", "y"))
        for text in [TEXT, plain.WITHOUT_ORDER[0]]:
            self.assertEqual("p", self.assert_raises(UnknownName, arrange, Table.read(text), notes).name)
        bar, ring = self.assert_no_order(arrange, Table.read(plain.WITHOUT_ORDER[0]), notes.about("x") - Notes(("x", "q")))
        self.assertTrue(plain.is_bar(Table.read(plain.WITHOUT_ORDER[0]), bar))
        self.assertIsNone(ring)
        table, notes = Table.read(TEXT), Notes(("x", "y"), ("z", "y"))
        bar, ring = self.assert_no_order(arrange, table, notes)
        self.assertTrue(plain.is_ring(table, notes, ring))
        self.assertIsNone(bar)


class Holds(unittest.TestCase):
    def setUp(self):
        self.table = Table.read("lamps b a c\nlook x a\nlook y b a\nlook z b\nlook w b")
        self.settings = {"x": -5, "y": 0, "z": 3, "w": 3}
        self.stretches = {"a": (-6, 1), "b": (-4, 3), "c": (4, 9)}

    def assert_holds(self, held, settings=None, stretches=None, notes=None):
        found = Arrangement(settings or self.settings, stretches or self.stretches)
        self.assertIs(held, arrangement_holds(self.table, notes, found))
        self.assertIs(held, arrangement_holds(self.table, notes, found + -20))

    def test_any_arrangement_that_fits(self):
        self.assert_holds(True)
        self.assert_holds(True, notes=Notes())
        self.assert_holds(True, stretches={**self.stretches, "c": None})
        self.assert_holds(True, stretches={**self.stretches, "c": (-4, -1)})
        self.assert_holds(True, settings={**self.settings, "w": 2})

    def test_the_other_direction(self):
        found = -Arrangement(self.settings, self.stretches)
        self.assertIs(True, arrangement_holds(self.table, None, found))
        self.assertIs(True, arrangement_holds(self.table, Notes(("z", "x")), found))
        self.assertIs(False, arrangement_holds(self.table, Notes(("x", "z")), found))

    def test_wrong_settings(self):
        for look in self.settings:
            self.assert_holds(False, settings={key: self.settings[key] for key in self.settings if key != look})
            self.assert_holds(False, settings={**self.settings, look: 50})
        self.assert_holds(False, settings={**self.settings, "q": 3})
        self.assert_holds(False, settings={"q" if look == "w" else look: at for look, at in self.settings.items()})
        self.assert_holds(False, settings={**self.settings, "x": 0})

    def test_wrong_stretches(self):
        for lamp in self.stretches:
            self.assert_holds(False, stretches={key: self.stretches[key] for key in self.stretches if key != lamp})
            self.assert_holds(False, stretches={**self.stretches, lamp: (-100, 100)})
        self.assert_holds(False, stretches={**self.stretches, "q": None})
        self.assert_holds(False, stretches={**self.stretches, "a": None})
        self.assert_holds(False, stretches={**self.stretches, "c": (3, 3)})
        self.assert_holds(False, stretches={**self.stretches, "a": (-4, 1)})
        self.assert_holds(False, stretches={**self.stretches, "a": (-6, -1)})

    def test_notes(self):
        self.assert_holds(True, notes=Notes(("x", "y"), ("y", "w"), ("x", "w")))
        self.assert_holds(False, notes=Notes(("x", "y"), ("y", "x")))
        self.assert_holds(False, notes=Notes(("z", "x")))

    def test_a_note_between_looks_at_one_setting(self):
        self.assert_holds(False, notes=Notes(("z", "w")))
        self.assert_holds(False, notes=Notes(("w", "z")))
        self.assert_holds(True, settings={**self.settings, "w": 2}, notes=Notes(("w", "z")))

    def test_a_note_with_an_unknown_look(self):
        for notes in [Notes(("x", "q")), Notes(("q", "x")), Notes(("x", "y"), ("p", "q")), Notes(("a", "b"))]:
            self.assert_holds(False, notes=notes)

    def test_no_looks_and_no_lamps(self):
        empty = Arrangement({}, {})
        self.assertIs(True, arrangement_holds(Table([], []), None, empty))
        self.assertIs(False, arrangement_holds(Table([], []), Notes(("x", "y")), empty))
        self.assertIs(False, arrangement_holds(Table(["a"], []), None, empty))
        self.assertIs(True, arrangement_holds(Table(["a"], []), None, Arrangement({}, {"a": (7, 7)})))
        self.assertIs(False, arrangement_holds(Table([], [("x", [])]), None, empty))
        self.assertIs(True, arrangement_holds(Table([], [("x", [])]), None, Arrangement({"x": -9}, {})))

    def test_arguments_stay_as_they_are(self):
        found = Arrangement(self.settings, self.stretches)
        arrangement_holds(self.table, Notes(("x", "y")), found)
        self.assertEqual((self.settings, self.stretches), (found.settings, found.stretches))

    def test_every_small_arrangement_of_a_table(self):
        table = Table.read("lamps a\nlook x a\nlook y")
        notes = Notes(("y", "x"))
        for x in range(3):
            for y in range(3):
                for stretch in [None, (0, 0), (1, 1), (2, 2), (0, 1), (1, 2), (0, 2)]:
                    glows = [stretch is not None and stretch[0] <= at <= stretch[1] for at in (x, y)]
                    found = Arrangement({"x": x, "y": y}, {"a": stretch})
                    self.assertIs(glows == [True, False], arrangement_holds(table, None, found))
                    self.assertIs(glows == [True, False] and y < x, arrangement_holds(table, notes, found))


if __name__ == "__main__":
    unittest.main()
