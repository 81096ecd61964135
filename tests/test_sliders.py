"""Promises 1, 41 and 42: lamps on two sliders."""

import unittest
from itertools import permutations, product
from random import Random

from dimmerlog.checking import split_holds
from dimmerlog.sliders import Split, split
from dimmerlog.solving import fits
from dimmerlog.tables import Table
from tests import papers, plain
from tests.cases import DimmerCase
from tests.values import names


def ways(table):
    """Return all ways to divide the lamps, those ahead that put earlier lamps on the first slider."""
    every = set(permutations(table.looks))
    orders = {lamp: {order for order in every if plain.side_by_side(order, table.seen(lamp))} for lamp in table.lamps}
    found = []
    for numbers in product([1, 2], repeat=len(table.lamps)):
        sliders = [tuple(lamp for lamp, number in zip(table.lamps, numbers) if number == slider) for slider in (1, 2)]
        if all(every.intersection(*[orders[lamp] for lamp in lamps]) for lamps in sliders):
            found.append(tuple(sliders))
    return found


def mixed_tables(many, seed):
    """Return so many tables with six looks and eight lamps, each of which glows at about four of the looks."""
    rest, lamps = Random(seed), "hfbdeacg"
    return [Table([*lamps], [(look, [lamp for lamp in lamps if rest.random() < 0.65]) for look in "vuwxzy"])
            for _ in range(many)]


def tables():
    """Return tables, most of which have no order."""
    found = plain.read_all(plain.WITHOUT_ORDER + plain.WITH_ORDER) + plain.random_tables(20, 7) + mixed_tables(30, 5)
    found += [papers.star(many) for many in range(6)] + [papers.pairs_of_looks(many) for many in range(5)]
    return found + [Table(table.lamps[::-1], table.rows()) for table in found]


class Divided(DimmerCase):
    def test_against_a_plain_listing(self):
        for table in tables():
            with self.subTest(str(table)):
                right = ways(table)
                found = split(table)
                self.assertIs(Split, found.__class__)
                if right:
                    self.assertEqual((*right[0], None), (found.first, found.second, found.paper))
                    self.assertEqual((tuple, tuple), (found.first.__class__, found.second.__class__))
                else:
                    self.assert_paper(table, found)

    def assert_paper(self, table, found):
        """The Split has no lamps, but a paper that holds."""
        self.assertEqual((None, None), (found.first, found.second))
        self.assertIs(tuple, found.paper.__class__)
        self.assertTrue(papers.is_split_paper(table, found.paper))
        self.assertIs(True, split_holds(table, found.paper))

    def test_the_cases_are_of_every_kind(self):
        found = [split(table) for table in tables()]
        self.assertGreater(sum(one.paper is not None for one in found), 5)
        self.assertGreater(sum(one.second == () for one in found), 20)
        self.assertGreater(sum(one.second not in [(), None] for one in found), 20)

    def test_no_lamps(self):
        for table in [Table([], []), Table([], [("x", []), ("y", [])])]:
            found = split(table)
            self.assertEqual(((), (), None), (found.first, found.second, found.paper))

    def test_no_looks_and_one_lamp(self):
        self.assertEqual((("b", "a"), ()), (split(Table(["b", "a"], [])).first, split(Table(["b", "a"], [])).second))
        self.assertEqual(("a",), split(Table(["a"], [("x", ["a"])])).first)

    def test_an_order_that_fits_already(self):
        for text in plain.WITH_ORDER:
            table = Table.read(text)
            self.assertEqual((table.lamps, ()), (split(table).first, split(table).second))

    def test_the_first_lamps_are_on_the_first_slider(self):
        for lamps in ["abc", "cab", "bca", "cba"]:
            table = Table([*lamps], [("x", ["a", "b"]), ("y", ["b", "c"]), ("z", ["a", "c"])])
            self.assertEqual((tuple(lamps[:2]), (lamps[2],)), (split(table).first, split(table).second))
        table = papers.star(4)
        self.assertEqual((("a", "b"), ("c", "d")), (split(table).first, split(table).second))
        table = Table([*"dacb"], table.rows())
        self.assertEqual((("d", "a"), ("c", "b")), (split(table).first, split(table).second))

    def test_lamps_cannot_be_divided(self):
        for table in [papers.star(5), papers.star(10), papers.pairs_of_looks(5)]:
            self.assert_paper(table, split(table))

    def test_changed_papers(self):
        many = 0
        for table in [papers.star(5), *tables()]:
            paper = split(table).paper
            if paper is not None:
                for other in papers.changed_splits(table, paper)[::2]:
                    held = papers.is_split_paper(table, other)
                    self.assertIs(held, split_holds(table, other))
                    many += not held
        self.assertGreater(many, 100)

    def test_10_and_11_lamps(self):
        self.assertEqual(tuple(names(10)), split(Table(names(10), [])).first)
        for table in [Table(names(11), []), papers.star(11), Table(names(24), [("x", [])])]:
            self.assert_limit(10, split, table)

    def test_24_looks(self):
        looks = names(24, "x")
        lamps = {f"a{step}": [looks[at] for at in range(24) if at * step % 24 < 12] for step in range(1, 11)}
        table = Table([*lamps], [(look, [lamp for lamp in lamps if look in lamps[lamp]]) for look in looks])
        found = split(table)
        if found.paper is None:
            self.assertTrue(all(fits(table.without(*chosen)) for chosen in (found.first, found.second)))
        else:
            self.assert_paper(table, found)
        table = table.without("a3", "a5", "a6", "a7", "a8", "a9", "a10")
        found = split(table)
        self.assertEqual(sorted(table.lamps), sorted(found.first + found.second))
        self.assertTrue(fits(table.without(*found.first)) and fits(table.without(*found.second)))

    def test_the_table_stays_as_it_is(self):
        for table in [papers.star(5), Table.read(plain.WITHOUT_ORDER[0])]:
            before = str(table)
            split(table)
            self.assertEqual(before, str(table))


if __name__ == "__main__":
    unittest.main()
