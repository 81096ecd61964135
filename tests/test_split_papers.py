"""Promises 1, 29 and 42, its checks: papers that lamps cannot be divided among two sliders."""

import unittest

from dimmerlog.checking import split_holds
from dimmerlog.steps import bar
from dimmerlog.tables import Table
from tests import papers, plain

TRIANGLE = Table.read(plain.WITHOUT_ORDER[0])


class Holds(unittest.TestCase):
    def setUp(self):
        self.table = papers.star(5)
        self.paper = papers.split_paper(self.table, self.table.lamps)

    def test_papers_in_any_order_of_lamps(self):
        for table in [self.table, papers.pairs_of_looks(5)]:
            for lamps in [table.lamps, table.lamps[::-1], table.lamps[3:] + table.lamps[:3]]:
                paper = papers.split_paper(table, lamps)
                self.assertTrue(papers.is_split_paper(table, paper))
                self.assertIs(True, split_holds(table, paper))

    def test_changed_papers(self):
        changed = papers.changed_splits(self.table, self.paper)
        for paper in changed:
            with self.subTest(paper=paper):
                self.assertIs(papers.is_split_paper(self.table, paper), split_holds(self.table, paper))
        self.assertGreater(sum(not split_holds(self.table, paper) for paper in changed), 40)

    def test_more_lamps_than_needed(self):
        table = papers.star(6)
        paper = papers.split_paper(table, "fabcde")
        self.assertIs(True, split_holds(table, paper))
        self.assertIs(False, split_holds(self.table, paper))
        self.assertIs(True, split_holds(table, self.paper))

    def test_a_table_with_more_than_10_lamps(self):
        table = papers.star(11)
        self.assertIs(True, split_holds(table, papers.split_paper(table, table.lamps)))

    def test_a_bar_at_the_top(self):
        for number in [1, 2, 0, None]:
            self.assertIs(False, split_holds(TRIANGLE, ("bar", number, bar(TRIANGLE))))

    def test_lamps_of_a_bar_that_are_not_all_on_its_slider(self):
        steps = bar(TRIANGLE)
        last = ("lamp", "c", ("bar", 1, steps), ("bar", 2, steps))
        paper = ("lamp", "a", ("lamp", "b", last, last), ("lamp", "b", last, last))
        self.assertIs(False, split_holds(TRIANGLE, paper))

    def test_numbers_of_sliders(self):
        def numbered(paper, number):
            if paper[0] == "bar":
                return ("bar", number(paper[1]), paper[2])
            return ("lamp", paper[1], numbered(paper[2], number), numbered(paper[3], number))

        self.assertIs(True, split_holds(self.table, numbered(self.paper, lambda number: number)))
        for wrong in [lambda number: 3 - number, lambda number: number - 1, lambda number: 3, lambda number: 1,
                      lambda number: None]:
            self.assertIs(False, split_holds(self.table, numbered(self.paper, wrong)))

    def test_a_lamp_that_is_on_a_slider_already(self):
        _, lamp, one, two = self.paper
        for other in [("lamp", lamp, self.paper, self.paper), ("lamp", lamp, ("lamp", lamp, one, two), two)]:
            self.assertIs(False, split_holds(self.table, other))

    def test_unknown_lamps(self):
        _, lamp, one, two = self.paper
        for name in ["q", "u", "ua", ""]:
            self.assertIs(False, split_holds(self.table, ("lamp", name, one, two)))
            self.assertIs(False, split_holds(self.table, ("lamp", name, self.paper, self.paper)))
            self.assertIs(False, split_holds(self.table, ("lamp", lamp, ("lamp", name, one, one), two)))

    def test_empty_chains(self):
        for number in [0, 1, 2]:
            self.assertIs(False, split_holds(TRIANGLE, ("bar", number, [])))
            self.assertIs(False, split_holds(Table([], []), ("bar", number, [])))

    def test_other_words(self):
        _, lamp, one, two = self.paper
        for word in ["", "bar", "Lamp", "ring"]:
            self.assertIs(False, split_holds(self.table, (word, lamp, one, two)))
            self.assertIs(False, split_holds(self.table, ("lamp", lamp, (word, 1, two), two)))

    def test_other_words_at_the_bars(self):
        def worded(paper, word):
            if paper[0] == "bar":
                return (word, *paper[1:])
            return ("lamp", paper[1], worded(paper[2], word), worded(paper[3], word))

        self.assertIs(True, split_holds(self.table, worded(self.paper, "bar")))
        for word in ["", "Bar", "ring", "lamp"]:
            self.assertIs(False, split_holds(self.table, worded(self.paper, word)))

    def test_a_lamp_with_one_paper_or_none(self):
        _, lamp, one, two = self.paper
        for paper in [("lamp", lamp), ("lamp", lamp, one), ("lamp", lamp, ("lamp", "b"), two)]:
            self.assertIs(False, split_holds(self.table, paper))

    def test_arguments_stay_as_they_are(self):
        before = str(self.table), repr(self.paper)
        split_holds(self.table, self.paper)
        self.assertEqual(before, (str(self.table), repr(self.paper)))


if __name__ == "__main__":
    unittest.main()
