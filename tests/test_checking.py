"""Promises 1, 29 and 30: checks of orders, chains, bars and rings."""

import unittest
from itertools import permutations

from dimmerlog.checking import bar_holds, order_holds, ring_holds, steps_hold
from dimmerlog.notes import Notes
from dimmerlog.solving import solve
from dimmerlog.steps import bar, chain
from dimmerlog.tables import Table
from tests import papers, plain
from tests.values import names

TEXT = "lamps a b\nlook x a\nlook y a b\nlook z b"
RING = [[("x", "y", None)], [("z", "y", None), ("z", "x", "a"), ("y", "x", "b")]]
RING_NOTES = Notes(("x", "y"), ("z", "y"))


class Orders(unittest.TestCase):
    def test_every_order_of_many_tables(self):
        for seed, table in enumerate(plain.small_tables()):
            for notes in plain.some_notes(table, seed)[seed % 3::3]:
                right = plain.orders_of(table, notes)
                for order in permutations(table.looks):
                    self.assertIs(order in right, order_holds(table, notes, order))
                    self.assertIs(order in right, order_holds(table, notes, list(order)))

    def test_the_empty_order(self):
        for table in [Table([], []), Table(["a"], [])]:
            for order in [(), []]:
                self.assertIs(True, order_holds(table, None, order))
                self.assertIs(True, order_holds(table, Notes(), order))
        self.assertIs(False, order_holds(Table([], []), None, ("x",)))
        self.assertIs(False, order_holds(Table([], [("x", [])]), None, ()))

    def test_one_look(self):
        table = Table(["a"], [("x", ["a"])])
        self.assertIs(True, order_holds(table, None, ("x",)))
        self.assertIs(False, order_holds(table, None, ("x", "x")))
        self.assertIs(False, order_holds(table, None, ("y",)))

    def test_not_each_look_exactly_once(self):
        table = Table.read(TEXT)
        for order in ["", "x", "xy", "xyy", "xyzz", "xyzx", "xyq", "xyzq", "xya", "zzz"]:
            self.assertIs(False, order_holds(table, None, tuple(order)))
            self.assertIs(False, order_holds(table, None, list(order)))
        self.assertIs(False, order_holds(table, None, ("x", "y", "")))

    def test_notes(self):
        table = Table.read(TEXT)
        self.assertIs(True, order_holds(table, Notes(("x", "y"), ("x", "z")), ("x", "y", "z")))
        self.assertIs(False, order_holds(table, Notes(("x", "y"), ("z", "x")), ("x", "y", "z")))
        self.assertIs(False, order_holds(table, Notes(("x", "y"), ("y", "x")), ("x", "y", "z")))

    def test_a_note_with_an_unknown_look(self):
        table = Table.read(TEXT)
        for notes in [Notes(("x", "q")), Notes(("q", "x")), Notes(("p", "q")), Notes(("x", "y"), ("a", "z"))]:
            self.assertIs(False, order_holds(table, notes, ("x", "y", "z")))
        self.assertIs(False, order_holds(Table([], []), Notes(("x", "y")), ()))

    def test_24_looks_and_24_lamps(self):
        looks, lamps = sorted(names(24, "x")), names(24)
        table = Table(lamps, [(look, lamps[:at + 1]) for at, look in enumerate(looks)])
        self.assertIs(True, order_holds(table, Notes((looks[0], looks[23])), looks))
        self.assertIs(False, order_holds(table, None, [looks[1], looks[0], *looks[2:]]))


class Steps(unittest.TestCase):
    def test_the_chains_of_the_program(self):
        for table in plain.small_tables()[::3]:
            for start in plain.pairs_of(table)[::4]:
                for end in plain.lengths_from(table, start):
                    self.assertIs(True, steps_hold(table, chain(table, start, end)))

    def test_changed_chains(self):
        many = {True: 0, False: 0}
        for text in plain.WITHOUT_ORDER:
            table = Table.read(text)
            for steps in papers.changed_chains(table, bar(table)):
                with self.subTest(text, steps=steps):
                    right = plain.is_chain(table, steps)
                    self.assertIs(right, steps_hold(table, steps))
                    many[right] += 1
        self.assertGreater(min(many.values()), 10)

    def test_every_step_between_two_pairs(self):
        table = Table.read("lamps a b\nlook w a\nlook x a b\nlook y b\nlook z")
        for start in plain.pairs_of(table):
            for before in "wxyzq":
                for after in "wxyzq":
                    for lamp in ["a", "b", "x", "q", None]:
                        right = (before, after, lamp) in plain.steps_from(table, start)
                        self.assertIs(right, steps_hold(table, [(*start, None), (before, after, lamp)]))

    def test_a_chain_with_one_triple(self):
        table = Table.read(TEXT)
        self.assertIs(True, steps_hold(table, [("z", "x", None)]))
        for triple in [("x", "x", None), ("x", "q", None), ("q", "x", None), ("q", "p", None), ("x", "z", "a"),
                       ("x", "z", ""), ("x", "z", "q"), ("a", "b", None), ("q", "q", None)]:
            self.assertIs(False, steps_hold(table, [triple]))

    def test_the_empty_chain(self):
        for table in [Table([], []), Table.read(TEXT)]:
            self.assertIs(False, steps_hold(table, []))
            self.assertIs(False, bar_holds(table, []))

    def test_a_chain_may_go_on_longer_than_it_must(self):
        table = Table.read(TEXT)
        steps = [("x", "z", None), ("y", "z", "a"), ("x", "z", "a"), ("y", "z", "a")]
        self.assertIs(True, steps_hold(table, steps))

    def test_a_step_that_leads_nowhere_is_none(self):
        self.assertIs(False, steps_hold(Table.read(TEXT), [("x", "z", None), ("x", "z", "a")]))


class Bars(unittest.TestCase):
    def test_the_bars_of_the_program(self):
        for table in plain.read_all(plain.WITHOUT_ORDER) + plain.random_tables(60, 4):
            steps = bar(table)
            if steps is not None:
                self.assertIs(True, bar_holds(table, steps))
                self.assertIs(False, bar_holds(table, steps[:-1]))
                self.assertIs(False, bar_holds(table, steps[1:]))

    def test_changed_bars(self):
        for text in plain.WITHOUT_ORDER:
            table = Table.read(text)
            for steps in papers.changed_chains(table, bar(table)):
                with self.subTest(text, steps=steps):
                    self.assertIs(plain.is_bar(table, steps), bar_holds(table, steps))

    def test_a_longer_bar(self):
        table = Table.read(plain.WITHOUT_ORDER[0])
        steps = bar(table)
        longer = [*steps, (*steps[-2][:2], steps[-1][2]), steps[-1]]
        self.assertTrue(plain.is_bar(table, longer))
        self.assertIs(True, bar_holds(table, longer))

    def test_chains_that_are_no_bar(self):
        table = Table.read(TEXT)
        self.assertIs(False, bar_holds(table, [("x", "y", None)]))
        self.assertIs(False, bar_holds(table, [("x", "z", None), ("y", "z", "a")]))
        self.assertIs(False, bar_holds(table, [("x", "z", None), ("z", "x", "a")]))
        self.assertIs(False, bar_holds(table, [("x", "x", None)]))


class Rings(unittest.TestCase):
    def test_the_rings_of_the_program(self):
        many = 0
        for seed, table in enumerate(plain.small_tables()):
            for notes in plain.some_notes(table, seed):
                ring = solve(table, notes).ring
                if ring is not None:
                    self.assertIs(True, ring_holds(table, notes, ring))
                    self.assertIs(False, ring_holds(table, None, ring))
                    self.assertIs(False, ring_holds(table, Notes(), ring))
                    many += 1
        self.assertGreater(many, 50)

    def test_changed_rings(self):
        table = Table.read("lamps a b\nlook x a\nlook y a b\nlook z b\nlook w")
        rings = [(RING_NOTES, RING), (Notes(("x", "w"), ("w", "z"), ("y", "x")), None)]
        for notes, ring in rings:
            ring = solve(table, notes).ring if ring is None else ring
            self.assertIs(True, ring_holds(table, notes, ring))
            for other in papers.changed_rings(table, ring):
                with self.subTest(ring=other):
                    self.assertIs(plain.is_ring(table, notes, other), ring_holds(table, notes, other))

    def test_the_empty_ring(self):
        self.assertIs(False, ring_holds(Table.read(TEXT), RING_NOTES, []))
        self.assertIs(False, ring_holds(Table.read(TEXT), RING_NOTES, [[]]))
        self.assertIs(False, ring_holds(Table.read(TEXT), RING_NOTES, [RING[0], []]))

    def test_the_ring_of_one_chain(self):
        table = Table.read(TEXT)
        for steps in [*RING, [("x", "y", None), ("x", "z", "b")], [("x", "x", None)]]:
            self.assertIs(False, ring_holds(table, RING_NOTES, [steps]))
        table = Table.read(plain.WITHOUT_ORDER[0])
        steps = bar(table)
        self.assertIs(False, ring_holds(table, Notes(steps[0][:2]), [steps]))

    def test_a_ring_begins_at_any_chain(self):
        table = Table.read(TEXT)
        self.assertIs(True, ring_holds(table, RING_NOTES, RING))
        self.assertIs(True, ring_holds(table, RING_NOTES, RING[::-1]))
        self.assertIs(True, ring_holds(table, RING_NOTES, RING * 2))

    def test_a_ring_of_a_table_with_a_bar(self):
        table = Table.read(plain.WITHOUT_ORDER[0])
        notes = Notes(("x", "y"), ("y", "x"))
        self.assertIs(True, ring_holds(table, notes, [[("x", "y", None)], [("y", "x", None)]]))

    def test_the_wrong_way_round(self):
        table = Table([], [("x", []), ("y", []), ("z", [])])
        notes = Notes(("x", "y"), ("y", "z"), ("z", "x"))
        chains = [[("x", "y", None)], [("y", "z", None)], [("z", "x", None)]]
        self.assertIs(True, ring_holds(table, notes, chains))
        self.assertIs(False, ring_holds(table, notes, chains[::-1]))
        self.assertIs(False, ring_holds(table, -notes, chains))
        self.assertIs(False, ring_holds(table, notes - Notes(("z", "x")), chains))

    def test_a_note_with_an_unknown_look_has_no_effect(self):
        table = Table.read(TEXT)
        for unknown in [Notes(("q", "x")), Notes(("x", "q")), Notes(("p", "q"), ("q", "p"))]:
            self.assertIs(True, ring_holds(table, RING_NOTES + unknown, RING))

    def test_a_chain_that_begins_with_an_unknown_look(self):
        table = Table([], [("x", []), ("y", [])])
        notes = Notes(("x", "q"), ("q", "x"), ("p", "q"), ("q", "p"))
        self.assertIs(False, ring_holds(table, notes, [[("x", "q", None)], [("q", "x", None)]]))
        self.assertIs(False, ring_holds(table, notes, [[("p", "q", None)], [("q", "p", None)]]))

    def test_a_first_pair_that_is_no_note(self):
        table = Table.read(TEXT)
        self.assertIs(False, ring_holds(table, Notes(("x", "y"), ("y", "z")), RING))
        self.assertIs(False, ring_holds(table, Notes(("y", "x"), ("z", "y")), RING))


class Unchanged(unittest.TestCase):
    def test_arguments_stay_as_they_are(self):
        table, order = Table.read(TEXT), ["z", "y", "x"]
        steps = [("x", "z", None), ("y", "z", "a")]
        ring = [list(chain_) for chain_ in RING]
        order_holds(table, RING_NOTES, order)
        steps_hold(table, steps)
        bar_holds(table, steps)
        ring_holds(table, RING_NOTES, ring)
        self.assertEqual((TEXT, ["z", "y", "x"]), (str(table), order))
        self.assertEqual([("x", "z", None), ("y", "z", "a")], steps)
        self.assertEqual(("x < y, z < y", RING), (str(RING_NOTES), ring))


if __name__ == "__main__":
    unittest.main()
