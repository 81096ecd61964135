"""Promises 1, 5 and 16 to 20: steps, chains, tied pairs and bars."""

import unittest

from dimmerlog.errors import UnknownName
from dimmerlog.steps import bar, chain, lamps_of, tied
from dimmerlog.tables import Table
from tests import plain
from tests.cases import DimmerCase
from tests.values import UNKNOWN_NAMES, names

TEXT = "lamps a b\nlook x a\nlook y a b\nlook z b"


class Steps(DimmerCase):
    """The steps of one lamp, which is the only one of its table."""

    def setUp(self):
        self.table = Table(["a"], [("w", []), ("x", ["a"]), ("y", []), ("z", ["a"])])

    def test_a_step_changes_the_first_look(self):
        self.assertEqual([("x", "y", None), ("z", "y", "a")], chain(self.table, ("x", "y"), ("z", "y")))
        self.assertEqual([("z", "w", None), ("x", "w", "a")], chain(self.table, ("z", "w"), ("x", "w")))

    def test_a_step_changes_the_second_look(self):
        self.assertEqual([("y", "x", None), ("y", "z", "a")], chain(self.table, ("y", "x"), ("y", "z")))
        self.assertEqual([("w", "z", None), ("w", "x", "a")], chain(self.table, ("w", "z"), ("w", "x")))

    def test_there_are_no_other_steps(self):
        steps = {("x", "y"), ("z", "y")}, {("x", "w"), ("z", "w")}, {("y", "x"), ("y", "z")}, {("w", "x"), ("w", "z")}
        for start in plain.pairs_of(self.table):
            for end in plain.pairs_of(self.table):
                with self.subTest(start=start, end=end):
                    joined = start == end or any(start in pairs and end in pairs for pairs in steps)
                    self.assertEqual(joined, chain(self.table, start, end) is not None)

    def test_a_lamp_at_one_look_or_at_all_looks_makes_no_step(self):
        for table in [Table(["a"], [("x", ["a"]), ("y", []), ("z", [])]),
                      Table(["a"], [("x", ["a"]), ("y", ["a"]), ("z", ["a"])])]:
            for pair in plain.pairs_of(table):
                self.assertEqual([pair], tied(table, pair))


class Chain(DimmerCase):
    def test_every_pair_of_pairs_against_a_plain_search(self):
        for table in plain.read_all(plain.WITH_ORDER + plain.WITHOUT_ORDER) + plain.random_tables(25, 2):
            for start in plain.pairs_of(table):
                lengths = plain.lengths_from(table, start)
                for end in plain.pairs_of(table):
                    with self.subTest(str(table), start=start, end=end):
                        found = chain(table, start, end)
                        if end not in lengths:
                            self.assertIsNone(found)
                        else:
                            self.assertTrue(plain.is_chain(table, found))
                            self.assertEqual((start, end), (found[0][:2], found[-1][:2]))
                            self.assertEqual(lengths[end], len(found))

    def test_equal_pairs_make_one_triple(self):
        for table in plain.read_all(plain.WITH_ORDER + plain.WITHOUT_ORDER):
            for pair in plain.pairs_of(table):
                self.assertEqual([(*pair, None)], chain(table, pair, pair))

    def test_a_long_chain(self):
        looks = names(24, "x")
        table = Table(names(23), [(look, names(24)[max(0, at - 1):min(23, at + 1)]) for at, look in enumerate(looks)])
        found = chain(table, ("x0", "x1"), ("x22", "x23"))
        self.assertTrue(plain.is_chain(table, found))
        self.assertEqual(plain.lengths_from(table, ("x0", "x1"))["x22", "x23"], len(found))
        self.assertIsNone(chain(table, ("x0", "x1"), ("x23", "x22")))

    def test_looks_of_a_pair_that_are_unknown(self):
        table = Table.read(TEXT)
        for name in UNKNOWN_NAMES:
            with self.subTest(str(name)[:20]):
                self.assert_names(UnknownName, name, chain, table, (name, "x"), ("x", "y"))
                self.assert_names(UnknownName, name, chain, table, ("x", name), ("x", "y"))
                self.assert_names(UnknownName, name, chain, table, ("x", "y"), (name, "x"))
                self.assert_names(UnknownName, name, chain, table, ("x", "y"), ("x", name))
                self.assert_names(UnknownName, name, chain, table, (name, name), (name, name))

    def test_a_lamp_is_no_look(self):
        self.assert_names(UnknownName, "a", chain, Table.read(TEXT), ("x", "a"), ("x", "y"))

    def test_a_pair_of_equal_looks(self):
        table = Table.read(TEXT)
        self.assert_note("x", "x", chain, table, ("x", "x"), ("x", "y"))
        self.assert_note("y", "y", chain, table, ("x", "y"), ("y", "y"))

    def test_errors_in_their_order(self):
        table = Table.read(TEXT)
        self.assert_names(UnknownName, "p", chain, table, ("p", "q"), ("r", "s"))
        self.assert_names(UnknownName, "q", chain, table, ("x", "q"), ("r", "s"))
        self.assert_note("x", "x", chain, table, ("x", "x"), ("r", "s"))
        self.assert_note("x", "x", chain, table, ("x", "x"), ("y", "y"))
        self.assert_names(UnknownName, "r", chain, table, ("x", "y"), ("r", "s"))
        self.assert_names(UnknownName, "s", chain, table, ("x", "y"), ("x", "s"))
        self.assert_names(UnknownName, "q", chain, table, ("q", "q"), ("x", "x"))

    def test_a_table_without_looks(self):
        self.assert_names(UnknownName, "x", chain, Table(["a"], []), ("x", "x"), ("x", "x"))


class Tied(DimmerCase):
    def test_every_pair_against_a_plain_search(self):
        for table in plain.small_tables():
            for pair in plain.pairs_of(table):
                with self.subTest(str(table), pair=pair):
                    self.assertEqual(sorted(plain.lengths_from(table, pair)), tied(table, pair))

    def test_tied_pairs_agree_in_every_order_that_fits(self):
        for table in plain.small_tables():
            orders = plain.orders_of(table)
            agreed = {
                pair: [order.index(pair[0]) < order.index(pair[1]) for order in orders]
                for pair in plain.pairs_of(table)
            }
            if orders:
                for pair in agreed:
                    with self.subTest(str(table), pair=pair):
                        self.assertEqual(
                            sorted(other for other in agreed if agreed[other] == agreed[pair]), tied(table, pair))

    def test_a_pair_is_tied_to_itself(self):
        self.assertEqual([("y", "x")], tied(Table([], [("x", []), ("y", [])]), ("y", "x")))

    def test_errors_in_their_order(self):
        table = Table.read(TEXT)
        self.assert_names(UnknownName, "p", tied, table, ("p", "q"))
        self.assert_names(UnknownName, "p", tied, table, ("p", "p"))
        self.assert_names(UnknownName, "q", tied, table, ("x", "q"))
        self.assert_note("z", "z", tied, table, ("z", "z"))
        wrong = ["x"]
        self.assert_names(UnknownName, wrong, tied, table, ("x", wrong))


class Bar(DimmerCase):
    def assert_fewest(self, table):
        found = bar(table)
        self.assertTrue(plain.is_bar(table, found))
        self.assertEqual(plain.fewest_of_a_bar(table), len(found))

    def test_there_is_a_bar_exactly_if_no_order_fits(self):
        for table in plain.small_tables() + plain.every_table("zxy", "abc")[::3]:
            with self.subTest(str(table)):
                self.assertEqual(plain.orders_of(table) == [], bar(table) is not None)

    def test_the_fewest_triples(self):
        for table in plain.read_all(plain.WITHOUT_ORDER):
            with self.subTest(str(table)):
                self.assert_fewest(table)

    def test_lengths_of_bars(self):
        self.assertEqual([4, 5, 6, 7], [len(bar(Table.read(text))) for text in plain.WITHOUT_ORDER[:4]])

    def test_the_fewest_triples_where_bars_have_different_lengths(self):
        # Two halves that do not share lamps, each with bars of its own.
        long = plain.WITHOUT_ORDER[2].split("\n")
        short = ["lamps f g h i", "look r f g", "look s g h", "look t h i", "look u i f"]
        for first, second in [(long, short), (short, long)]:
            lamps = first[0] + second[0].removeprefix("lamps")
            table = Table.read("\n".join([lamps, *first[1:], *second[1:]]))
            self.assert_fewest(table)
            self.assertEqual(5, len(bar(table)))

    def test_no_looks_one_look_and_two_looks(self):
        for text in ["lamps", "lamps a", "lamps a\nlook x a", "lamps a\nlook x a\nlook y"]:
            self.assertIsNone(bar(Table.read(text)))

    def test_24_looks(self):
        lamps = names(24)
        table = Table(lamps, [(f"x{at}", [lamp, lamps[at - 1]]) for at, lamp in enumerate(lamps)])
        found = bar(table)
        self.assertTrue(plain.is_bar(table, found))
        self.assertEqual(25, len(found))
        self.assertIsNone(bar(table.without("n7")))

    def test_the_reverse_of_a_table(self):
        for text in plain.WITHOUT_ORDER:
            lamps, *looks = text.split("\n")
            self.assert_fewest(Table.read("\n".join([lamps, *looks[::-1]])))


class Lamps(unittest.TestCase):
    def test_ascending_without_duplicates_and_without_none(self):
        steps = [("x", "y", None), ("x", "z", "c"), ("x", "y", "a"), ("x", "z", "c"), ("w", "z", "b10"), ("w", "z", "b9")]
        self.assertEqual(["a", "b10", "b9", "c"], lamps_of(steps))

    def test_no_lamps(self):
        self.assertEqual([], lamps_of([]))
        self.assertEqual([], lamps_of([("x", "y", None)]))

    def test_several_chains_in_one_list(self):
        self.assertEqual(["a"], lamps_of([("x", "y", None), ("x", "z", "a"), ("x", "y", None), ("z", "y", "a")]))


class Unchanged(unittest.TestCase):
    def test_arguments_stay_as_they_are(self):
        table = Table.read(plain.WITHOUT_ORDER[0])
        steps = [("x", "y", None), ("z", "y", "b"), ("z", "x", "a")]
        bar(table)
        tied(table, ("x", "y"))
        chain(table, ("x", "y"), ("y", "x"))
        lamps_of(steps)
        self.assertEqual(plain.WITHOUT_ORDER[0], str(table))
        self.assertEqual([("x", "y", None), ("z", "y", "b"), ("z", "x", "a")], steps)

    def test_returned_lists_belong_to_the_caller(self):
        table = Table.read(plain.WITHOUT_ORDER[0])
        steps = [("x", "y", None), ("x", "z", "c"), ("x", "y", "a")]
        for call in [lambda: chain(table, ("x", "y"), ("y", "x")), lambda: tied(table, ("x", "y")),
                     lambda: bar(table), lambda: lamps_of(steps)]:
            first = call()
            before = list(first)
            first.clear()
            self.assertEqual(before, call())


if __name__ == "__main__":
    unittest.main()
