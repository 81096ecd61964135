"""Promises 1, 5 and 44 to 49: halls."""

import unittest

from dimmerlog.errors import DuplicateName, InvalidName, NoOrder, UnknownName
from dimmerlog.failures import Failure
from dimmerlog.halls import Hall
from dimmerlog.notes import Notes
from dimmerlog.solving import Solution, solve
from dimmerlog.tables import Table
from tests import plain
from tests.cases import DimmerCase
from tests.values import UNKNOWN_NAMES, WRONG_NAMES, names

TEXT = "lamps a b\nlook x a\nlook y a b\nlook z b"
TRIANGLE = plain.WITHOUT_ORDER[0]


class HallCase(DimmerCase):
    def setUp(self):
        self.hall = Hall.of(Table.read(TEXT), Notes(("y", "z")))

    def assert_state(self, text, notes, changes, hall=None):
        hall = self.hall if hall is None else hall
        self.assertEqual((text, notes, changes), (str(hall.table), str(hall.known), hall.changes))

    def assert_unchanged(self):
        self.assert_state(TEXT, "y < z", 0)

    def assert_refused(self, error, name, call, *args):
        """The call raises this error with this name, and leaves the hall as it was."""
        before = str(self.hall.table), str(self.hall.known), self.hall.changes
        self.assert_names(error, name, call, *args)
        self.assert_state(*before)


class New(HallCase):
    def test_a_new_hall(self):
        self.assert_state("lamps", "", 0, Hall())
        self.assertEqual((2, Table([], []), Notes()), (Hall().most, Hall().table, Hall().known))
        self.assertIs(False, Hall().undo())

    def test_answers_of_a_new_hall(self):
        hall = Hall()
        self.assertEqual(((), ()), (hall.solution().order, hall.best_order()))
        self.assertEqual(((), None), (hall.failed().lamps, hall.failed().paper))
        self.assertEqual((), hall.tried().order)
        self.assert_names(UnknownName, "x", hall.relation, "x", "y")

    def test_of_a_table(self):
        self.assert_unchanged()
        self.assertEqual(2, self.hall.most)
        self.assert_state(TEXT, "", 0, Hall.of(Table.read(TEXT)))
        self.assert_state(TEXT, "", 0, Hall.of(Table.read(TEXT), None))
        self.assertIs(False, self.hall.undo())
        self.assert_unchanged()

    def test_of_notes_with_an_unknown_look(self):
        notes = Notes(("x", "q"), ("x", "y"), ("y", "x"), ("p", "y"))
        self.assertEqual("p", self.assert_raises(UnknownName, Hall.of, Table.read(TEXT), notes).name)
        self.assertEqual("x", self.assert_raises(UnknownName, Hall.of, Table(["x"], []), Notes(("x", "y"))).name)

    def test_halls_do_not_share_anything(self):
        table, notes = Table.read(TEXT), Notes(("x", "y"))
        first, second = Hall.of(table, notes), Hall.of(table, notes)
        first.add_lamp("c")
        first.note("y", "x")
        first["a", "z"] = True
        first.most = 0
        self.assert_state(TEXT, "x < y", 0, second)
        self.assertEqual((2, TEXT, "x < y"), (second.most, str(table), str(notes)))
        one, other = Hall(), Hall()
        one.add_look("x")
        self.assert_state("lamps", "", 0, other)


class Changes(HallCase):
    def test_add_lamp(self):
        self.assertIsNone(self.hall.add_lamp("c"))
        self.assert_state("lamps a b c\nlook x a\nlook y a b\nlook z b", "y < z", 1)
        self.assertIsNone(self.hall.add_lamp("x"))
        self.assert_state("lamps a b c x\nlook x a\nlook y a b\nlook z b", "y < z", 2)

    def test_add_look(self):
        self.assertIsNone(self.hall.add_look("w", "b", "a"))
        self.assertIsNone(self.hall.add_look("a"))
        self.assert_state(TEXT + "\nlook w a b\nlook a", "y < z", 2)

    def test_remove_lamp(self):
        self.assertIsNone(self.hall.remove_lamp("a"))
        self.assert_state("lamps b\nlook x\nlook y b\nlook z b", "y < z", 1)

    def test_remove_look(self):
        self.hall.note("x", "z")
        self.hall.note("x", "y")
        self.assertIsNone(self.hall.remove_look("y"))
        self.assert_state("lamps a b\nlook x a\nlook z b", "x < z", 3)
        self.hall.add_look("y")
        self.assert_state("lamps a b\nlook x a\nlook z b\nlook y", "x < z", 4)

    def test_note_and_forget(self):
        self.assertIsNone(self.hall.note("z", "y"))
        self.assert_state(TEXT, "y < z, z < y", 1)
        self.assertIsNone(self.hall.forget("y", "z"))
        self.assert_state(TEXT, "z < y", 2)

    def test_a_note_that_is_there_and_one_that_is_not_there(self):
        self.hall.note("y", "z")
        self.assert_state(TEXT, "y < z", 1)
        self.hall.forget("z", "y")
        self.assert_state(TEXT, "y < z", 2)
        self.hall.forget("x", "z")
        self.assert_state(TEXT, "y < z", 3)
        for left in [2, 1, 0]:
            self.assertIs(True, self.hall.undo())
            self.assert_state(TEXT, "y < z", left)
        self.assertIs(False, self.hall.undo())

    def test_cells(self):
        self.hall["b", "x"] = True
        self.assert_state("lamps a b\nlook x a b\nlook y a b\nlook z b", "y < z", 1)
        self.hall["a", "y"] = False
        self.assert_state("lamps a b\nlook x a b\nlook y b\nlook z b", "y < z", 2)
        self.hall["a", "y"] = True
        self.assert_state("lamps a b\nlook x a b\nlook y a b\nlook z b", "y < z", 3)

    def test_a_cell_that_says_what_was_said_before(self):
        self.hall["a", "x"] = True
        self.assert_state(TEXT, "y < z", 1)
        self.hall["b", "x"] = False
        self.assert_state(TEXT, "y < z", 2)
        self.assertEqual([True, True, False], [self.hall.undo() for _ in range(3)])
        self.assert_unchanged()

    def test_each_change_can_be_undone(self):
        changes = [lambda: self.hall.add_lamp("c"), lambda: self.hall.add_look("w", "c"),
                   lambda: self.hall.remove_lamp("a"), lambda: self.hall.note("w", "x"),
                   lambda: self.hall.remove_look("x"), lambda: self.hall.forget("y", "z"),
                   lambda: self.hall.change(("lamp", "d"), ("unlook", "y")), lambda: self.hall.change()]
        states = []
        for change in changes:
            states.append((str(self.hall.table), str(self.hall.known), len(states)))
            change()
        for state in states[::-1]:
            self.assertIs(True, self.hall.undo())
            self.assert_state(*state)
        self.assertIs(False, self.hall.undo())
        self.assert_unchanged()

    def test_on_from_an_undone_state(self):
        self.hall.add_lamp("c")
        self.hall.add_lamp("d")
        self.hall.undo()
        self.hall.add_lamp("e")
        self.assertEqual(("a", "b", "c", "e"), self.hall.table.lamps)
        self.assertEqual([True, True, False], [self.hall.undo() for _ in range(3)])
        self.assert_unchanged()


class Wrong(HallCase):
    def test_wrong_names(self):
        for name in WRONG_NAMES:
            with self.subTest(str(name)[:20]):
                self.assert_refused(InvalidName, name, self.hall.add_lamp, name)
                self.assert_refused(InvalidName, name, self.hall.add_look, name)
                self.assert_refused(InvalidName, name, self.hall.add_look, name, "q")
                self.assert_refused(InvalidName, name, self.hall.change, ("lamp", name))
                self.assert_refused(InvalidName, name, self.hall.change, ("lamp", "c"), ["look", name])

    def test_names_that_are_there(self):
        self.assert_refused(DuplicateName, "a", self.hall.add_lamp, "a")
        self.assert_refused(DuplicateName, "y", self.hall.add_look, "y")
        self.assert_refused(DuplicateName, "y", self.hall.add_look, "y", "q")
        self.assert_refused(DuplicateName, "a", self.hall.add_look, "w", "a", "b", "a", "q")

    def test_unknown_names(self):
        hall = self.hall
        for name in UNKNOWN_NAMES:
            with self.subTest(str(name)[:20]):
                self.assert_refused(UnknownName, name, hall.add_look, "w", name)
                self.assert_refused(UnknownName, name, hall.add_look, "w", "a", name, "a")
                for call in [hall.remove_lamp, hall.remove_look]:
                    self.assert_refused(UnknownName, name, call, name)
                for call in [hall.note, hall.forget, hall.relation]:
                    self.assert_refused(UnknownName, name, call, name, "x")
                    self.assert_refused(UnknownName, name, call, "x", name)
                    self.assert_refused(UnknownName, name, call, name, name)
                self.assert_refused(UnknownName, name, self.say, name, "x")
                self.assert_refused(UnknownName, name, self.say, "a", name)
                for word in ["unlamp", "unlook"]:
                    self.assert_refused(UnknownName, name, hall.change, (word, name))
                for word in ["note", "forget"]:
                    self.assert_refused(UnknownName, name, hall.change, ("lamp", "c"), [word, "x", name])
                self.assert_refused(UnknownName, name, hall.tried, ("look", "w", name))

    def say(self, lamp, look):
        self.hall[lamp, look] = True

    def test_errors_in_their_order(self):
        for call in [self.hall.note, self.hall.forget, self.hall.relation]:
            self.assert_refused(UnknownName, "p", call, "p", "q")
            self.assert_refused(UnknownName, "a", call, "a", "a")
            self.assert_note("x", "x", call, "x", "x")
        self.assert_refused(UnknownName, "p", self.say, "p", "q")
        self.assert_refused(UnknownName, "q", self.say, "a", "q")
        self.assert_refused(UnknownName, "x", self.say, "x", "a")
        self.assert_unchanged()

    def test_equal_looks_in_a_change(self):
        for word in ["note", "forget"]:
            self.assert_note("x", "x", self.hall.change, ("lamp", "c"), (word, "x", "x"))
            self.assert_note("x", "x", self.hall.tried, (word, "x", "x"))
        self.assert_unchanged()

    def test_24_and_25_lamps(self):
        hall = Hall()
        for name in names(24):
            hall.add_lamp(name)
        text = str(hall.table)
        for name in ["n24", "n0", "", None, "A"]:
            self.assert_limit(24, hall.add_lamp, name)
            self.assert_limit(24, hall.change, ("look", "x"), ("lamp", name))
        self.assert_state(text, "", 24, hall)
        hall.add_look("x", *names(24))
        self.assertEqual(24, len(hall.table.shown("x")))

    def test_24_and_25_looks(self):
        hall = Hall.of(Table(["a"], [(name, ["a"]) for name in names(24)]))
        text = str(hall.table)
        for name in ["n24", "n0", "", None, "A"]:
            self.assert_limit(24, hall.add_look, name)
            self.assert_limit(24, hall.add_look, name, "q", "q")
            self.assert_limit(24, hall.tried, ("look", name))
        self.assert_state(text, "", 0, hall)
        hall.add_lamp("b")
        hall.change(("unlook", "n0"), ("look", "n0"))
        self.assertEqual((24, 2), (len(hall.table), hall.changes))


class Several(HallCase):
    def test_several_changes_are_one_change(self):
        self.assertIsNone(self.hall.change(
            ("lamp", "c"), ["look", "w", "c", "a"], ("note", "w", "x"), ("unlook", "z"), ("unlamp", "b"),
            ["note", "x", "y"], ["forget", "x", "y"]))
        self.assert_state("lamps a c\nlook x a\nlook y a\nlook w a c", "w < x", 1)
        self.assertIs(True, self.hall.undo())
        self.assert_unchanged()
        self.assertIs(False, self.hall.undo())

    def test_no_changes(self):
        self.assertIsNone(self.hall.change())
        self.assert_state(TEXT, "y < z", 1)
        self.assertEqual([True, False], [self.hall.undo(), self.hall.undo()])

    def test_unknown_words(self):
        for word in ["", "Lamp", "on", "off", "lamps", "undo", "order", "change", "a", 0, None, True, 10 ** 3999, [],
                     ["lamp"], ("lamp",), {"lamp": 1}, {"lamp"}, b"lamp", 1.5, *WRONG_NAMES]:
            for call in [self.hall.change, self.hall.tried]:
                with self.subTest(str(word)[:20]):
                    self.assert_refused(UnknownName, word, call, (word, "c"))
                    self.assert_refused(UnknownName, word, call, [word])
                    self.assert_refused(UnknownName, word, call, ("lamp", "c"), (word, "c", "d"), ("lamp", "A"))

    def test_a_change_of_which_a_later_part_fails(self):
        wrong = [("lamp", "a"), ("lamp", "c"), ("look", "w", "q"), ("look", "w", "c", "c"), ("unlamp", "b"),
                 ("unlook", "x"), ("note", "x", "w"), ("forget", "y", "x")]
        for change in wrong:
            for call in [self.hall.change, self.hall.tried]:
                ahead = [("lamp", "c"), ("unlamp", "b"), ("note", "z", "y"), ("unlook", "x")]
                with self.assertRaises((UnknownName, DuplicateName)):
                    call(*ahead, change, ("look", "u"))
                self.assert_unchanged()

    def test_the_first_wrong_change_counts(self):
        self.assert_refused(UnknownName, "p", self.hall.change, ("unlamp", "p"), ("lamp", "A"), ("q",))
        self.assert_refused(InvalidName, "A", self.hall.change, ("lamp", "A"), ("unlamp", "p"))

    def test_later_changes_see_the_earlier_ones(self):
        self.hall.change(("lamp", "c"), ("look", "w", "c"), ("note", "w", "x"), ("unlamp", "c"), ("lamp", "c"))
        self.assert_state("lamps a b c\nlook x a\nlook y a b\nlook z b\nlook w", "w < x, y < z", 1)

    def test_changes_that_are_given_stay_as_they_are_and_are_copied(self):
        change = ["look", "w", "a"]
        self.hall.change(change)
        change[2:] = ["b"]
        self.assertEqual(("a",), self.hall.table.shown("w"))
        self.hall.tried(change[:1] + ["v"])
        self.assertEqual(["look", "w", "b"], change)


class Answers(HallCase):
    def test_the_present_table_and_notes(self):
        self.assertIs(Solution, self.hall.solution().__class__)
        self.assertEqual((("x", "y", "z"), ("x", "y", "z")), (self.hall.solution().order, self.hall.best_order()))
        self.assertEqual(["before", "after"], [self.hall.relation("x", "y"), self.hall.relation("z", "x")])
        self.hall.forget("y", "z")
        self.assertEqual("open", self.hall.relation("x", "y"))
        self.hall.note("z", "y")
        self.assertEqual((("z", "y", "x"), "after"), (self.hall.best_order(), self.hall.relation("x", "y")))
        self.hall.undo()
        self.hall.undo()
        self.assertEqual("before", self.hall.relation("x", "y"))

    def test_no_order(self):
        for hall in [Hall.of(Table.read(TRIANGLE)), Hall.of(Table.read(TEXT), Notes(("x", "y"), ("z", "y")))]:
            solution = hall.solution()
            self.assertEqual((None, False), (solution.order, bool(solution)))
            self.assertEqual((solution.bar, solution.ring), self.assert_no_order(hall.best_order))
            self.assertEqual((solution.bar, solution.ring), self.assert_no_order(hall.relation, "x", "z"))
            again = solve(hall.table, hall.known)
            self.assertEqual((again.bar, again.ring), (solution.bar, solution.ring))

    def test_failed(self):
        self.assertIs(Failure, self.hall.failed().__class__)
        self.assertEqual(((), None), (self.hall.failed().lamps, self.hall.failed().paper))
        hall = Hall.of(Table.read(TRIANGLE))
        self.assertEqual(("a",), hall.failed().lamps)
        hall.most = 0
        self.assertIsNone(hall.failed().lamps)
        self.assertEqual([], hall.failed().paper[1])
        hall.set_most(1)
        self.assertEqual(("a",), hall.failed().lamps)

    def test_most_counts_for_failed(self):
        lamps = "abcdefghi"
        looks = [(lamp + "0", [lamp, lamps[at // 3 * 3 + (at + 1) % 3]]) for at, lamp in enumerate(lamps)]
        hall = Hall.of(Table([*lamps], looks))
        self.assertIsNone(hall.failed().lamps)
        hall.set_most(3)
        self.assertEqual(("a", "d", "g"), hall.failed().lamps)

    def test_relation_with_equal_looks(self):
        self.assert_note("x", "x", self.hall.relation, "x", "x")
        self.assert_note("x", "x", Hall.of(Table.read(TRIANGLE)).relation, "x", "x")
        self.assert_names(UnknownName, "q", Hall.of(Table.read(TRIANGLE)).relation, "q", "q")

    def test_what_was_read_before_stays_as_it_was(self):
        table, known, solution, failure = self.hall.table, self.hall.known, self.hall.solution(), self.hall.failed()
        self.hall.change(("unlook", "x"), ("lamp", "c"), ("note", "z", "y"))
        self.hall["a", "z"] = True
        self.assertEqual((TEXT, "y < z", ("x", "y", "z"), (), None),
                         (str(table), str(known), solution.order, failure.lamps, failure.paper))
        self.hall.undo()
        self.hall.undo()
        self.assertEqual((table, known), (self.hall.table, self.hall.known))

    def test_answers_are_no_changes(self):
        self.hall.solution(), self.hall.best_order(), self.hall.relation("x", "y"), self.hall.failed()
        self.hall.table, self.hall.known, self.hall.most, self.hall.tried(("lamp", "c"))
        self.assert_unchanged()

    def test_what_is_returned_belongs_to_the_caller(self):
        self.hall.table.rows().clear()
        self.hall.table.groups.clear()
        self.assert_unchanged()
        self.assertEqual(3, len(self.hall.table.rows()))


class Most(HallCase):
    def assign(self, value):
        self.hall.most = value

    def test_0_to_3(self):
        for value in [0, 1, 2, 3]:
            for call in [self.hall.set_most, self.assign]:
                self.hall.most = 2
                self.assertIsNone(call(value))
                self.assertEqual(value, self.hall.most)

    def test_more_than_3(self):
        for call in [self.hall.set_most, self.assign]:
            for before in [0, 2, 3]:
                self.hall.set_most(before)
                for value in [4, 5, 24, 10 ** 30]:
                    self.assert_limit(3, call, value)
                    self.assertEqual(before, self.hall.most)

    def test_it_is_no_change(self):
        self.hall.add_lamp("c")
        self.hall.most = 3
        self.hall.set_most(1)
        self.assertEqual(1, self.hall.changes)
        self.assertEqual([True, False], [self.hall.undo(), self.hall.undo()])
        self.assertEqual(1, self.hall.most)
        self.hall.tried(("lamp", "c"))
        self.assertEqual(1, self.hall.most)


class Tried(HallCase):
    def test_the_solution_behind_the_changes(self):
        found = self.hall.tried(("forget", "y", "z"), ["note", "z", "y"])
        self.assertIs(Solution, found.__class__)
        self.assertEqual(("z", "y", "x"), found.order)
        self.assert_unchanged()
        found = self.hall.tried(("note", "y", "x"))
        self.assertTrue(plain.is_ring(Table.read(TEXT), Notes(("y", "z"), ("y", "x")), found.ring))
        self.assert_unchanged()

    def test_a_bar_behind_the_changes(self):
        found = self.hall.tried(("lamp", "c"), ("look", "u", "a", "c"), ("look", "v", "b", "c"), ("look", "w", "a", "b"))
        table = Table.read("lamps a b c\nlook x a\nlook y a b\nlook z b\nlook u a c\nlook v b c\nlook w a b")
        self.assertTrue(plain.is_bar(table, found.bar))
        self.assert_unchanged()

    def test_no_changes(self):
        self.assertEqual(("x", "y", "z"), self.hall.tried().order)
        self.assert_unchanged()

    def test_what_can_be_undone_behind_it(self):
        self.hall.add_lamp("c")
        self.hall.note("x", "y")
        self.hall.undo()
        state = "lamps a b c\nlook x a\nlook y a b\nlook z b", "y < z", 1
        self.hall.tried(("unlamp", "c"), ("unlook", "x"))
        self.assert_state(*state)
        self.assert_refused(UnknownName, "q", self.hall.tried, ("unlamp", "c"), ("unlook", "q"))
        self.assert_refused(InvalidName, "", self.hall.tried, ("lamp", ""))
        self.assert_state(*state)
        self.assertEqual([True, False], [self.hall.undo(), self.hall.undo()])
        self.assert_unchanged()

    def test_no_order_is_not_raised(self):
        hall = Hall.of(Table.read(TRIANGLE))
        self.assertFalse(hall.tried())
        self.assertEqual(("y", "x"), hall.tried(("unlook", "z"), ("note", "y", "x")).order)
        self.assert_raises(NoOrder, hall.best_order)


if __name__ == "__main__":
    unittest.main()
