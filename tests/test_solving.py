"""Promises 1, 5, 8, 9 and 24 to 28: the orders that fit a table and keep its notes."""

import unittest
from itertools import islice, permutations
from math import factorial

from dimmerlog.errors import NoOrder, UnknownName
from dimmerlog.notes import Notes
from dimmerlog.solving import Solution, all_orders, count_orders, fits, relation, solve
from dimmerlog.tables import Table
from tests import plain
from tests.cases import DimmerCase
from tests.values import UNKNOWN_NAMES, names

TEXT = "lamps a b\nlook x a\nlook y a b\nlook z b"


def blank(looks):
    """Return a table of these looks without lamps."""
    return Table([], [(look, []) for look in looks])


def cases():
    """Return pairs of a table and notes, and all orders that fit."""
    found = []
    for seed, table in enumerate(plain.small_tables()):
        for notes in plain.some_notes(table, seed)[seed % 2::2]:
            found.append((table, notes, plain.orders_of(table, notes)))
    return found


CASES = cases()


class Fitting(DimmerCase):
    def test_every_case_against_a_plain_listing(self):
        for table, notes, orders in CASES:
            with self.subTest(str(table), notes=str(notes)):
                self.assertEqual(orders, list(all_orders(table, notes)))
                self.assertIs(orders != [], fits(table, notes))

    def test_every_table_of_three_looks_and_three_lamps(self):
        for table in plain.every_table("yzx", "abc"):
            with self.subTest(str(table)):
                orders = plain.orders_of(table)
                self.assertEqual(orders, list(all_orders(table)))
                self.assertEqual(orders[0] if orders else None, solve(table).order)
                self.assertIs(orders != [], fits(table))

    def test_an_order_fits_exactly_if_there_are_settings_and_stretches(self):
        for table, notes, orders in CASES:
            if not notes.pairs and len(table.looks) < 5:
                for order in permutations(table.looks):
                    # The looks of a lamp fill the stretch from its first look to its last one.
                    stretches = [sorted(order.index(look) for look in table.seen(lamp)) for lamp in table.lamps]
                    fitting = all(not at or at == list(range(at[0], at[-1] + 1)) for at in stretches)
                    self.assertIs(fitting, order in orders)

    def test_the_reverse_of_an_order_that_fits_also_fits(self):
        for table, notes, orders in CASES:
            reverse = sorted(order[::-1] for order in orders)
            self.assertEqual(reverse, list(all_orders(table, -notes)))

    def test_no_looks(self):
        for table in [Table([], []), Table(["a", "b"], [])]:
            self.assertEqual([()], list(all_orders(table)))
            self.assertEqual(((), True, 1), (solve(table).order, fits(table), count_orders(table)))
            self.assertEqual((), solve(table, Notes()).order)

    def test_one_look_and_no_lamps(self):
        self.assertEqual([("x",)], list(all_orders(Table(["a"], [("x", ["a"])]))))
        self.assertEqual([("x",)], list(all_orders(blank("x"))))
        self.assertEqual([("x", "y"), ("y", "x")], list(all_orders(blank("yx"))))

    def test_orders_are_compared_as_tuples_of_strings(self):
        self.assertEqual([("10", "9"), ("9", "10")], list(all_orders(blank(["9", "10"]))))
        self.assertEqual(("1", "10", "2"), solve(blank(["2", "10", "1"])).order)
        self.assertEqual(("a", "a0", "b"), solve(blank(["b", "a0", "a"])).order)


class Solutions(DimmerCase):
    def assert_conflict(self, table, notes, solution):
        """The solution has a bar if the table has one, otherwise a ring."""
        fewest = plain.fewest_of_a_bar(table)
        if fewest is None:
            self.assertTrue(plain.is_ring(table, notes, solution.ring))
            self.assertIsNone(solution.bar)
        else:
            self.assertTrue(plain.is_bar(table, solution.bar))
            self.assertEqual(fewest, len(solution.bar))
            self.assertIsNone(solution.ring)

    def test_every_case(self):
        for table, notes, orders in CASES:
            with self.subTest(str(table), notes=str(notes)):
                solution = solve(table, notes)
                self.assertIs(Solution, solution.__class__)
                self.assertIs(orders != [], bool(solution))
                if orders:
                    self.assertEqual((orders[0], None, None), (solution.order, solution.bar, solution.ring))
                else:
                    self.assertIsNone(solution.order)
                    self.assert_conflict(table, notes, solution)

    def test_the_cases_are_of_every_kind(self):
        solutions = [solve(table, notes) for table, notes, _ in CASES]
        for many in [sum(bool(found) for found in solutions), sum(found.bar is not None for found in solutions),
                     sum(found.ring is not None for found in solutions)]:
            self.assertGreater(many, 20)

    def test_a_bar_comes_ahead_of_a_ring(self):
        for table in plain.read_all(plain.WITHOUT_ORDER):
            notes = Notes(*plain.pairs_of(table))
            self.assert_conflict(table, notes, solve(table, notes))

    def test_two_notes_against_each_other(self):
        solution = solve(blank("xy"), Notes(("x", "y"), ("y", "x")))
        self.assertEqual([[("x", "y", None)], [("y", "x", None)]], sorted(solution.ring))

    def test_a_ring_of_steps(self):
        table = Table.read(TEXT)
        notes = Notes(("x", "y"), ("z", "y"))
        ring = solve(table, notes).ring
        self.assertTrue(plain.is_ring(table, notes, ring))
        self.assertEqual((("a", "b"), True), (solve(table, notes).used(), len(ring) >= 2))

    def test_used(self):
        for table, notes, _ in CASES:
            solution = solve(table, notes)
            steps = [*(solution.bar or []), *[step for steps in solution.ring or [] for step in steps]]
            lamps = tuple(sorted({lamp for _, _, lamp in steps if lamp is not None}))
            self.assertEqual(lamps, solution.used())
            self.assertIs(tuple, solution.used().__class__)

    def test_used_if_there_is_an_order_or_a_ring_without_steps(self):
        self.assertEqual((), solve(Table.read(TEXT)).used())
        self.assertEqual((), solve(blank("xy"), Notes(("x", "y"), ("y", "x"))).used())
        self.assertEqual(("a", "b", "c"), solve(Table.read(plain.WITHOUT_ORDER[7])).used())

    def test_no_notes_are_as_none(self):
        for text in plain.WITH_ORDER + plain.WITHOUT_ORDER:
            table = Table.read(text)
            for found in [solve(table), solve(table, None), solve(table, notes=Notes())]:
                self.assertEqual(solve(table, Notes()).order, found.order)
            self.assertEqual(fits(table), fits(table, Notes()))
            self.assertEqual(list(all_orders(table, None)), list(all_orders(table, Notes())))
            self.assertEqual(count_orders(table, None), count_orders(table, Notes()))

    def test_a_note_twice(self):
        notes = Notes(("z", "x"), ("z", "x"))
        self.assertEqual(("z", "y", "x"), solve(Table.read(TEXT), notes).order)


class ManyLooks(DimmerCase):
    """24 looks without lamps have more orders than can be listed."""

    def setUp(self):
        self.looks = sorted(names(24, "x"))
        self.table = blank(self.looks[::-1])

    def test_the_least_order(self):
        self.assertEqual(tuple(self.looks), solve(self.table).order)
        backwards = Notes(*zip(self.looks[1:], self.looks))
        self.assertEqual(tuple(self.looks[::-1]), solve(self.table, backwards).order)
        last = Notes(*[(look, self.looks[0]) for look in self.looks[1:]])
        self.assertEqual((*self.looks[1:], self.looks[0]), solve(self.table, last).order)
        self.assertTrue(fits(self.table, last))

    def test_a_ring_of_all_looks(self):
        notes = Notes(*zip(self.looks, self.looks[1:] + self.looks[:1]))
        solution = solve(self.table, notes)
        self.assertTrue(plain.is_ring(self.table, notes, solution.ring))
        self.assertEqual((24, False), (len(solution.ring), fits(self.table, notes)))
        self.assertEqual(([], 0), (list(all_orders(self.table, notes)), count_orders(self.table, notes)))

    def test_a_ring_of_the_last_looks(self):
        first, *_, second, third = self.looks
        notes = Notes((second, third), (third, second), (first, second))
        self.assertTrue(plain.is_ring(self.table, notes, solve(self.table, notes).ring))
        self.assertEqual([], list(all_orders(self.table, notes)))

    def test_all_notes(self):
        notes = Notes(*permutations(self.looks, 2))
        self.assertTrue(plain.is_ring(self.table, notes, solve(self.table, notes).ring))

    def test_the_first_orders(self):
        *rest, x, y, z = self.looks
        first = [(*rest, *order) for order in permutations([x, y, z])]
        self.assertEqual(first, list(islice(all_orders(self.table), 6)))
        kept = [order for order in first if order.index(z) < order.index(x)]
        self.assertEqual(kept, list(islice(all_orders(self.table, Notes((z, x))), len(kept))))

    def test_relation(self):
        first, second, third = self.looks[:3]
        notes = Notes((first, second), (second, third))
        self.assertEqual("before", relation(self.table, notes, first, third))
        self.assertEqual("after", relation(self.table, notes, third, first))
        self.assertEqual("open", relation(self.table, notes, first, self.looks[9]))

    def test_count(self):
        self.assertEqual(1000, count_orders(self.table))
        self.assertEqual(factorial(24), count_orders(self.table, most=10 ** 30))
        self.assertEqual(factorial(24) - 1, count_orders(self.table, most=factorial(24) - 1))
        last = Notes(*[(look, self.looks[0]) for look in self.looks[1:]])
        self.assertEqual(factorial(23), count_orders(self.table, last, most=10 ** 30))
        self.assertEqual(factorial(23), count_orders(self.table, -last, most=10 ** 30))
        pairs = Notes(*zip(self.looks[::2], self.looks[1::2]))
        self.assertEqual(factorial(24) // 2 ** 12, count_orders(self.table, pairs, most=10 ** 30))
        self.assertEqual(1, count_orders(self.table, Notes(*zip(self.looks, self.looks[1:])), most=10 ** 30))

    def test_count_where_notes_join_all_looks(self):
        # Every other look is before the looks on both sides of it. So the settings of the looks go up and
        # down in turns. ways[at] counts such lines by how many settings are below the one of the last look.
        looks = self.looks
        notes = Notes(*zip(looks[::2], looks[1::2]), *zip(looks[2::2], looks[1::2]))
        ways = [1]
        for many in range(1, 24):
            below = [sum(ways[:at]) for at in range(many + 1)]
            above = [sum(ways[at:]) for at in range(many + 1)]
            ways = below if many % 2 == 1 else above
        self.assertEqual(sum(ways), count_orders(self.table, notes, most=10 ** 30))

    def test_lamps_at_pairs_of_looks(self):
        table = Table(names(12), [(look, [f"n{at // 2}"]) for at, look in enumerate(self.looks)])
        self.assertEqual(2 ** 12 * factorial(12), count_orders(table, most=10 ** 30))
        notes = Notes((self.looks[5], self.looks[4]), (self.looks[6], self.looks[4]))
        self.assertEqual(2 ** 11 * factorial(12) // 2, count_orders(table, notes, most=10 ** 30))
        self.assertEqual((*self.looks[:4], *self.looks[6:8], self.looks[5], self.looks[4], *self.looks[8:]),
                         solve(table, notes).order)


class Unknown(DimmerCase):
    def calls(self, table, notes):
        """Return all calls that take the table and the notes."""
        return [lambda: solve(table, notes), lambda: fits(table, notes), lambda: list(all_orders(table, notes)),
                lambda: count_orders(table, notes), lambda: count_orders(table, notes, most=0),
                lambda: relation(table, notes, "x", "y")]

    def test_a_note_that_names_an_unknown_look(self):
        for name in ["q", "a", "xx", "zz"]:
            for notes in [Notes((name, "x")), Notes(("x", name)), Notes(("x", "y"), (name, "z"))]:
                for call in self.calls(Table.read(TEXT), notes):
                    self.assertEqual(name, self.assert_raises(UnknownName, call).name)

    def test_the_first_unknown_look_counts(self):
        for first, pairs in [
                ("p", [("p", "q")]), ("q", [("x", "q"), ("y", "p")]), ("q", [("z", "p"), ("y", "q")]),
                ("r", [("x", "r"), ("x", "s")]), ("b", [("c", "b"), ("b", "c")]), ("q", [("x", "z"), ("x", "q")]),
                ("a", [("a", "z"), ("x", "b")])]:
            for call in self.calls(Table.read(TEXT), Notes(*pairs)):
                self.assertEqual(first, self.assert_raises(UnknownName, call).name)

    def test_unknown_looks_come_ahead_of_no_order(self):
        notes = Notes(("x", "y"), ("y", "x"), ("q", "x"))
        for text in [TEXT, plain.WITHOUT_ORDER[0], plain.WITHOUT_ORDER[1]]:
            for call in self.calls(Table.read(text), notes):
                self.assertEqual("q", self.assert_raises(UnknownName, call).name)

    def test_all_orders_raises_when_it_is_iterated_over(self):
        found = all_orders(Table.read(TEXT), Notes(("x", "q")))
        self.assertEqual("q", self.assert_raises(UnknownName, next, found).name)

    def test_a_table_without_looks(self):
        self.assert_names(UnknownName, "x", solve, Table(["x"], []), Notes(("x", "y")))


class Count(DimmerCase):
    def test_every_case(self):
        for table, notes, orders in CASES:
            many = len(orders)
            with self.subTest(str(table), notes=str(notes)):
                self.assertEqual(many, count_orders(table, notes))
                for most in [0, 1, 2, 3, many - 1, many, many + 1, many * 5]:
                    if most >= 0:
                        self.assertEqual(min(most, many), count_orders(table, notes, most=most))

    def test_most_is_1000_if_it_is_not_given(self):
        self.assertEqual(720, count_orders(blank("uvwxyz")))
        self.assertEqual(1000, count_orders(blank("tuvwxyz")))
        self.assertEqual(1001, count_orders(blank("tuvwxyz"), most=1001))

    def test_none(self):
        self.assertEqual(0, count_orders(Table.read(plain.WITHOUT_ORDER[0])))
        self.assertEqual(0, count_orders(blank("xyz"), Notes(("x", "y"), ("y", "x")), most=0))
        self.assertEqual(0, count_orders(Table.read(TEXT), most=0))
        self.assertEqual(0, count_orders(Table([], []), most=0))

    def test_most_is_passed_by_name(self):
        self.assertRaises(TypeError, count_orders, blank("x"), None, 5)


class Relation(DimmerCase):
    def test_every_case(self):
        for table, notes, orders in CASES[::2]:
            for first, second in plain.pairs_of(table)[::3]:
                with self.subTest(str(table), notes=str(notes), first=first, second=second):
                    if orders:
                        found = {order.index(first) < order.index(second) for order in orders}
                        word = "open" if len(found) == 2 else "before" if True in found else "after"
                        self.assertEqual(word, relation(table, notes, first, second))
                    else:
                        solution = solve(table, notes)
                        papers = self.assert_no_order(relation, table, notes, first, second)
                        self.assertEqual((solution.bar, solution.ring), papers)

    def test_words(self):
        table = Table.read(TEXT)
        self.assertEqual("open", relation(table, None, "x", "z"))
        self.assertEqual("before", relation(table, Notes(("y", "z")), "x", "z"))
        self.assertEqual("after", relation(table, Notes(("z", "y")), "x", "z"))

    def test_no_order(self):
        table = Table.read(plain.WITHOUT_ORDER[0])
        bar, ring = self.assert_no_order(relation, table, None, "x", "y")
        self.assertTrue(plain.is_bar(table, bar))
        self.assertIsNone(ring)
        notes = Notes(("x", "y"), ("z", "y"))
        bar, ring = self.assert_no_order(relation, Table.read(TEXT), notes, "x", "y")
        self.assertTrue(plain.is_ring(Table.read(TEXT), notes, ring))
        self.assertIsNone(bar)

    def test_unknown_looks(self):
        table = Table.read(TEXT)
        for name in UNKNOWN_NAMES:
            with self.subTest(str(name)[:20]):
                self.assert_names(UnknownName, name, relation, table, None, name, "x")
                self.assert_names(UnknownName, name, relation, table, None, "x", name)
                self.assert_names(UnknownName, name, relation, table, None, name, name)

    def test_errors_in_their_order(self):
        contrary = Notes(("x", "y"), ("y", "x"))
        unknown = contrary + Notes(("q", "x"))
        for table in [Table.read(TEXT), Table.read(plain.WITHOUT_ORDER[0])]:
            self.assert_names(UnknownName, "r", relation, table, unknown, "r", "s")
            self.assert_names(UnknownName, "s", relation, table, unknown, "x", "s")
            self.assert_note("x", "x", relation, table, unknown, "x", "x")
            self.assert_note("x", "x", relation, table, contrary, "x", "x")
            self.assertEqual("q", self.assert_raises(UnknownName, relation, table, unknown, "x", "z").name)
            self.assert_raises(NoOrder, relation, table, contrary, "x", "z")


class Unchanged(DimmerCase):
    def test_arguments_stay_as_they_are(self):
        for table, notes, _ in CASES[::5]:
            before = str(table), str(notes)
            solve(table, notes)
            fits(table, notes)
            list(all_orders(table, notes))
            count_orders(table, notes)
            if len(table.looks) > 1:
                try:
                    relation(table, notes, *table.looks[:2])
                except NoOrder:
                    pass
            self.assertEqual(before, (str(table), str(notes)))

    def test_answers_are_the_same_again(self):
        for table, notes, _ in CASES[::5]:
            first, second = solve(table, notes), solve(table, notes)
            self.assertEqual((first.order, first.bar, first.ring), (second.order, second.bar, second.ring))

    def test_orders_do_not_change_while_they_are_yielded(self):
        table = Table.read(TEXT)
        found = all_orders(table)
        first = next(found)
        solve(table, Notes(("z", "x")))
        self.assertEqual([("x", "y", "z"), ("z", "y", "x")], [first, *found])


if __name__ == "__main__":
    unittest.main()
