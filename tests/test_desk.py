"""Promises 1, 50 and 51: desks."""

import unittest

from dimmerlog.desk import Desk
from dimmerlog.halls import Hall
from dimmerlog.notes import Notes
from dimmerlog.tables import Table
from tests import plain
from tests.cases import DimmerCase
from tests.values import names

TEXT = "lamps a b\nlook x a\nlook y a b\nlook z b"
TRIANGLE = plain.WITHOUT_ORDER[0]


def desk_of(text, *notes):
    return Desk(Hall.of(Table.read(text), Notes(*notes)))


class DeskCase(DimmerCase):
    def assert_hall(self, desk, text, notes, changes):
        self.assertEqual((text, notes, changes), (str(desk.hall.table), str(desk.hall.known), desk.hall.changes))


class Halls(DeskCase):
    def test_a_new_hall(self):
        desk = Desk()
        self.assertIs(Hall, desk.hall.__class__)
        self.assert_hall(desk, "lamps", "", 0)
        self.assertIsNot(desk.hall, Desk().hall)
        desk("lamp a")
        self.assert_hall(Desk(), "lamps", "", 0)

    def test_the_given_hall_itself(self):
        hall = Hall()
        desk = Desk(hall)
        self.assertIs(hall, desk.hall)
        desk("lamp a")
        hall.add_look("x", "a")
        self.assertEqual("lamps a\nlook x a", desk("table"))
        self.assertEqual((("a",), 2), (hall.table.lamps, hall.changes))
        self.assertIs(hall, Desk(hall=hall).hall)
        self.assertIs(hall, desk.hall)


class Lines(DeskCase):
    def test_changes(self):
        desk = Desk()
        for line, text, notes in [
                ("lamp a", "lamps a", ""), ("lamp b", "lamps a b", ""), ("look x", "lamps a b\nlook x", ""),
                ("look y b a", "lamps a b\nlook x\nlook y a b", ""), ("on a x", "lamps a b\nlook x a\nlook y a b", ""),
                ("off b y", "lamps a b\nlook x a\nlook y a", ""), ("on a y", "lamps a b\nlook x a\nlook y a", ""),
                ("note y x", "lamps a b\nlook x a\nlook y a", "y < x"),
                ("note x y", "lamps a b\nlook x a\nlook y a", "x < y, y < x"),
                ("forget y x", "lamps a b\nlook x a\nlook y a", "x < y"),
                ("unlamp a", "lamps b\nlook x\nlook y", "x < y"), ("unlook y", "lamps b\nlook x", "")]:
            self.assertEqual("ok", desk(line))
            self.assertEqual((text, notes), (str(desk.hall.table), str(desk.hall.known)))
        self.assertEqual(12, desk.hall.changes)

    def test_undo(self):
        desk = Desk()
        self.assertEqual("nothing to undo", desk("undo"))
        desk("lamp a")
        desk("lamp b")
        self.assertEqual(["ok", "ok", "nothing to undo", "nothing to undo"], [desk("undo") for _ in range(4)])
        self.assert_hall(desk, "lamps", "", 0)
        self.assertEqual("nothing to undo", desk_of(TEXT)("undo"))

    def test_order(self):
        self.assertEqual("order x y z", desk_of(TEXT)("order"))
        self.assertEqual("order z y x", desk_of(TEXT, ("z", "x"))("order"))
        self.assertEqual("none", desk_of(TEXT, ("x", "y"), ("z", "y"))("order"))
        self.assertEqual("none", desk_of(TRIANGLE)("order"))
        self.assertEqual("order", Desk()("order"))
        self.assertEqual("order", desk_of("lamps a")("order"))

    def test_tree(self):
        self.assertEqual("[x y z]", desk_of(TEXT)("tree"))
        self.assertEqual("[x y z]", desk_of(TEXT, ("x", "y"), ("z", "y"))("tree"))
        self.assertEqual("((x y) z)", desk_of("lamps a\nlook z\nlook y a\nlook x a")("tree"))
        self.assertEqual("none", desk_of(TRIANGLE)("tree"))
        self.assertEqual("()", Desk()("tree"))
        self.assertEqual("x", desk_of("lamps\nlook x")("tree"))

    def test_count(self):
        self.assertEqual("2", desk_of(TEXT)("count"))
        self.assertEqual("1", desk_of(TEXT, ("z", "x"))("count"))
        self.assertEqual("0", desk_of(TRIANGLE)("count"))
        self.assertEqual("1", Desk()("count"))

    def test_the_count_at_1000(self):
        desk = desk_of("\n".join(["lamps", *[f"look {name}" for name in names(6)]]))
        self.assertEqual("720", desk("count"))
        desk("look n6")
        self.assertEqual("1000", desk("count"))
        desk("note n0 n1")
        desk("note n1 n2")
        self.assertEqual("840", desk("count"))

    def test_relation(self):
        self.assertEqual("open", desk_of(TEXT)("relation x z"))
        self.assertEqual("before", desk_of(TEXT, ("y", "z"))("relation x z"))
        self.assertEqual("after", desk_of(TEXT, ("z", "y"))("relation x z"))
        self.assertEqual("none", desk_of(TEXT, ("x", "y"), ("z", "y"))("relation x z"))
        self.assertEqual("none", desk_of(TRIANGLE)("relation x z"))

    def test_relation_with_wrong_looks(self):
        for desk in [desk_of(TEXT), desk_of(TRIANGLE), Desk()]:
            for line in ["relation x x", "relation q q", "relation x q", "relation q x", "relation a x"]:
                self.assert_line(1, desk, line)

    def test_failed(self):
        self.assertEqual("failed", desk_of(TEXT)("failed"))
        self.assertEqual("failed", Desk()("failed"))
        desk = desk_of(TRIANGLE)
        self.assertEqual("failed a", desk("failed"))
        desk.hall.most = 0
        self.assertEqual("unknown", desk("failed"))
        self.assertEqual("unknown", desk_of(TEXT, ("x", "y"), ("y", "x"))("failed"))
        lamps, *looks = TRIANGLE.split("\n")
        other = ["look u d e", "look v e f", "look w d f"]
        self.assertEqual("failed a d", desk_of("\n".join([lamps + " d e f", *looks, *other]))("failed"))

    def test_table(self):
        self.assertEqual(TEXT, desk_of(TEXT)("table"))
        self.assertEqual("lamps", Desk()("table"))

    def test_questions_are_no_changes(self):
        desk = desk_of(TEXT, ("x", "y"))
        desk.run("order\ntree\ncount\nrelation x y\nfailed\ntable\nundo")
        self.assert_hall(desk, TEXT, "x < y", 0)


class Wrong(DeskCase):
    WRONG = [
        "", " ", "  ", "lamp", "look", "unlamp", "unlook", "note", "forget", "on", "off", "relation",
        "lamp ", "look ", " lamp c", "lamp  c", "lamp c ", "lamp c d", "look w ", "look w  a", "look  w", "look w a ",
        "unlamp a b", "unlook x y", "note x", "note x y z", "forget x", "forget x y z", "on a", "on a x x",
        "off a", "off a x y", "relation x", "relation x y z", "undo x", "undo ", " undo", "order x", "order ", "tree x",
        "count 5", "failed 2", "table x", " table", "Lamp c", "LAMP c", "Undo", "ORDER", "Table", "oN a x",
        "lamp A", "lamp c!", "lamp abcdefghijklm", "look W", "lamp a", "look x", "look w q", "look w a a", "look w A",
        "unlamp q", "unlamp x", "unlook q", "unlook a", "note x q", "note q x", "note x x", "forget x x", "forget q x",
        "on q x", "on a q", "on x a", "off a q", "off q x", "relation x x", "relation q x", "relation x q",
        "change", "tried", "most 2", "known", "solution", "quit", "help", "a", "lamps", "ok", "none", "lamp\tc",
        "look\tw", "lamp c\r", "# lamp c",
    ]

    def test_wrong_lines(self):
        for line in self.WRONG:
            with self.subTest(line):
                desk = desk_of(TEXT, ("y", "z"))
                self.assert_line(1, desk, line)
                self.assert_hall(desk, TEXT, "y < z", 0)

    def test_wrong_lines_of_a_text(self):
        for line in self.WRONG:
            with self.subTest(line):
                desk = desk_of(TEXT, ("y", "z"))
                self.assert_line(1, desk.run, line)
                self.assert_line(3, desk.run, f"lamp e\nundo\n{line}\nlamp")
                self.assert_hall(desk, TEXT, "y < z", 0)

    def test_too_many(self):
        desk = desk_of("lamps " + " ".join(names(24)))
        self.assert_line(1, desk, "lamp a")
        self.assertEqual("ok", desk("look x " + " ".join(names(24))))
        desk.run("\n".join(f"look y{at}" for at in range(23)))
        self.assert_line(1, desk, "look y23")
        self.assert_line(2, desk.run, "undo\nlook y0")
        self.assertEqual(["ok", "ok"], desk.run("undo\nlook y23"))


class Texts(DeskCase):
    def test_answers(self):
        desk = Desk()
        answers = desk.run("lamp a\nlook x a\nlook y\ntable\nfailed\ntree\nrelation y x\nundo\nundo\nundo\nundo\norder")
        self.assertEqual(["ok", "ok", "ok", "lamps a\nlook x a\nlook y", "failed", "(x y)", "open", "ok", "ok", "ok",
                          "nothing to undo", "order"], answers)
        self.assertIs(list, answers.__class__)

    def test_one_line(self):
        self.assertEqual(["ok"], Desk().run("lamp a"))
        self.assertEqual(["order"], Desk().run("order"))

    def test_the_empty_text_and_empty_lines(self):
        desk = Desk()
        self.assert_line(1, desk.run, "")
        self.assert_line(1, desk.run, "\n")
        self.assert_line(2, desk.run, "lamp a\n")
        self.assert_line(2, desk.run, "lamp a\n\nlamp b")
        self.assert_line(1, desk.run, "\nlamp a")
        self.assert_hall(desk, "lamps", "", 0)

    def test_the_first_wrong_line_counts(self):
        self.assert_line(2, Desk().run, "lamp a\nlamp a\nlamp\n")
        self.assert_line(3, Desk().run, "lamp a\nlook x a\nlook y b\nlook x")

    def test_a_later_line_is_wrong(self):
        desk = desk_of(TEXT, ("y", "z"))
        desk.run("lamp c\nnote x y\nlook w c")
        text = "lamps a b c\nlook x a\nlook y a b\nlook z b\nlook w c"
        for wrong in ["unlamp a\nlook w", "unlook w\nundo\nundo\nx", "undo\nundo\nundo\nundo\nlamp", "order\nlamp c",
                      "undo\nlamp a", "undo\nundo\nundo\nlook x", "undo\nlook v\nundo\nundo\nlamp e\nundo\nbad"]:
            self.assert_line(len(wrong.split("\n")), desk.run, wrong)
            self.assert_hall(desk, text, "x < y, y < z", 3)
        self.assertEqual(["ok", "ok", "ok", "nothing to undo"], desk.run("undo\nundo\nundo\nundo"))
        self.assert_hall(desk, TEXT, "y < z", 0)

    def test_states_that_can_be_undone_are_the_same(self):
        desk = Desk()
        desk.run("lamp a\nlamp b\nlamp c")
        self.assert_line(4, desk.run, "undo\nundo\nlamp d\nlamp a")
        found = []
        while desk("undo") == "ok":
            found.append(str(desk.hall.table))
        self.assertEqual(["lamps a b", "lamps a", "lamps"], found)

    def test_most_stays(self):
        desk = Desk()
        desk.hall.most = 3
        self.assert_line(2, desk.run, "lamp a\nlamp")
        self.assertEqual(3, desk.hall.most)

    def test_an_undo_takes_back_one_line(self):
        desk = Desk()
        desk.run("lamp a\nlook x a")
        desk.run("undo")
        self.assertEqual("lamps a", desk("table"))

    def test_no_order_is_not_wrong(self):
        desk = desk_of(TRIANGLE, ("x", "y"))
        self.assertEqual(["none", "none", "0", "none", "failed a"], desk.run("order\ntree\ncount\nrelation y z\nfailed"))

    def test_a_list_that_is_returned_belongs_to_the_caller(self):
        desk = Desk()
        desk.run("lamp a\ntable").clear()
        self.assertEqual(["lamps a"], desk.run("table"))


if __name__ == "__main__":
    unittest.main()
