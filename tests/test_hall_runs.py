"""Promises 44 to 51: long runs on halls and desks against a plain model that keeps every state."""

import unittest
from random import Random

from dimmerlog.desk import Desk
from dimmerlog.errors import DimmerError, InvalidLine
from dimmerlog.halls import Hall
from dimmerlog.notes import Notes
from dimmerlog.tables import Table
from tests.model import Model, random_changes

# Changes that are wrong in every state of a run.
WRONG = [("lamp", "A"), ("look", "q!"), ("look", ""), ("unlamp", "q"), ("unlook", "q"), ("note", "q", "x"),
         ("forget", "q", "x"), ("look", "v", "q"), ("lamps", "a"), ("", "a"), ("unlamp", None), (None, "a")]

METHODS = {"lamp": "add_lamp", "look": "add_look", "unlamp": "remove_lamp", "unlook": "remove_look",
           "note": "note", "forget": "forget"}


class HallRuns(unittest.TestCase):
    def test_changes_questions_and_undoings(self):
        for seed in range(12):
            rest, hall, model = Random(seed), Hall(), Model()
            for _ in range(120):
                self.step(rest, hall, model)
                self.assertTrue(model.is_right(hall))
            while model.undo():
                self.assertIs(True, hall.undo())
                self.assertTrue(model.is_right(hall))
            self.assertIs(False, hall.undo())

    def step(self, rest, hall, model):
        kind = rest.choice(["one", "one", "one", "several", "cell", "cell", "undo", "tried", "wrong", "questions"])
        if kind == "undo":
            self.assertIs(model.undo(), hall.undo())
        elif kind == "questions":
            self.ask(rest, hall, model)
        elif kind == "wrong":
            changes = [*random_changes(model, rest, rest.randint(0, 3)), rest.choice(WRONG)]
            self.assertRaises(DimmerError, hall.change, *changes, ("lamp", "l9"))
            self.assertRaises(DimmerError, hall.tried, *changes)
        elif kind == "cell":
            lamps, looks, _, _ = model.states[-1]
            if lamps and looks:
                on, lamp, look = rest.choice([True, False]), rest.choice(lamps), rest.choice(looks)
                hall[lamp, look] = on
                model.change([("on" if on else "off", lamp, look)])
        else:
            changes = random_changes(model, rest, 1 if kind == "one" else rest.randint(0, 4))
            if kind == "tried":
                self.try_out(hall, model, changes)
            elif kind == "one":
                word, *words = changes[0]
                self.assertIsNone(getattr(hall, METHODS[word])(*words))
                model.change(changes)
            else:
                self.assertIsNone(hall.change(*changes))
                model.change(changes)

    def try_out(self, hall, model, changes):
        found = hall.tried(*changes)
        model.change(changes)
        self.assertEqual(model.orders()[0] if model.orders() else None, found.order)
        model.undo()

    def ask(self, rest, hall, model):
        orders = model.orders()
        solution = hall.solution()
        self.assertEqual(orders[0] if orders else None, solution.order)
        self.assertIs(model.orders(notes=False) == [], solution.bar is not None)
        looks = model.states[-1][1]
        if orders and len(looks) > 1:
            first, second = rest.sample(looks, 2)
            self.assertEqual(model.relation(first, second), hall.relation(first, second))
            self.assertEqual(orders[0], hall.best_order())

    def test_what_was_read_stays_as_it_was(self):
        rest, hall, model, kept = Random(5), Hall(), Model(), []
        for _ in range(80):
            model_text, pairs, table, known = model.text, model.notes, hall.table, hall.known
            kept.append((model_text, pairs, table, known))
            changes = random_changes(model, rest, 2)
            hall.change(*changes)
            model.change(changes)
        for text, pairs, table, known in kept:
            self.assertEqual((text, pairs), (str(table), known.pairs))
            self.assertTrue(Table.read(text) == table and Notes(*pairs) == known)


class DeskRuns(unittest.TestCase):
    def test_lines_one_by_one_and_as_texts(self):
        for seed in range(10):
            rest, desk, model = Random(seed), Desk(), Model()
            for _ in range(40):
                lines, right = [], []
                for _ in range(rest.randint(1, 5)):
                    line, answer = self.line(rest, model)
                    lines.append(line)
                    right.append(answer)
                if rest.random() < 0.5:
                    self.assertEqual(right, desk.run("\n".join(lines)))
                else:
                    self.assertEqual(right, [desk(line) for line in lines])
                self.assertTrue(model.is_right(desk.hall))
                self.refuse(rest, desk, model)
            while desk("undo") == "ok":
                self.assertIs(True, model.undo())
                self.assertTrue(model.is_right(desk.hall))
            self.assertIs(False, model.undo())

    def line(self, rest, model):
        """Return a line and its answer, and make its change to the model."""
        lamps, looks, _, _ = model.states[-1]
        word = rest.choice(["change", "change", "change", "on", "off", "undo", "order", "count", "relation", "table"])
        if word in ["on", "off"] and lamps and looks:
            change = (word, rest.choice(lamps), rest.choice(looks))
            model.change([change])
            return " ".join(change), "ok"
        if word == "undo":
            return word, "ok" if model.undo() else "nothing to undo"
        if word == "order":
            return word, " ".join(["order", *model.orders()[0]]) if model.orders() else "none"
        if word == "count":
            return word, str(len(model.orders()))
        if word == "table":
            return word, model.text
        if word == "relation" and len(looks) > 1:
            first, second = rest.sample(looks, 2)
            return f"relation {first} {second}", model.relation(first, second)
        changes = random_changes(model, rest, 1)
        model.change(changes)
        return " ".join(changes[0]), "ok"

    def refuse(self, rest, desk, model):
        """A text whose last line is wrong, behind changes and undoings, leaves the hall as it was."""
        ahead = [" ".join(change) for change in random_changes(model, rest, rest.randint(0, 3))]
        undoings = ["undo"] * rest.randint(0, 6)
        wrong = rest.choice(["", "unlook q", "lamp", "lamp A", "Undo", "order x", "undo ", " undo", "look  a", "quit"])
        with self.assertRaises(InvalidLine) as caught:
            desk.run("\n".join([*ahead, *undoings, wrong, "lamp"]))
        self.assertEqual(len(ahead) + len(undoings) + 1, caught.exception.line)
        self.assertTrue(model.is_right(desk.hall))


if __name__ == "__main__":
    unittest.main()
