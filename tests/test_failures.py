"""Promises 1, 24 and 38 to 40: failed lamps and their papers."""

import unittest
from itertools import combinations

from dimmerlog.checking import failure_holds
from dimmerlog.errors import UnknownName
from dimmerlog.failures import Failure, all_failed, fewest_failed
from dimmerlog.notes import Notes
from dimmerlog.steps import bar
from dimmerlog.tables import Table
from tests import papers, plain
from tests.cases import DimmerCase
from tests.values import names

TEXT = "lamps a b\nlook x a\nlook y a b\nlook z b"
TRIANGLE = plain.WITHOUT_ORDER[0]
CONTRARY = Notes(("x", "y"), ("y", "x"))


def smallest(table, notes):
    """Return all smallest tuples of failed lamps, of any size, by a listing of all sets of lamps."""
    for many in range(len(table.lamps) + 1):
        found = [failed for failed in combinations(sorted(table.lamps), many)
                 if plain.orders_of(table.without(*failed), notes.pairs)]
        if found:
            return found
    return []


def rounds(*sizes):
    """Return a table without order: for each size, so many looks and lamps in a round."""
    lamps, looks = [], []
    for size in sizes:
        start = len(lamps)
        lamps += [f"n{start + at}" for at in range(size)]
        looks += [(f"x{start + at}", [lamps[start + at], lamps[start + (at + 1) % size]]) for at in range(size)]
    return Table(lamps, looks)


def cases():
    """Return pairs of a table and notes, and all smallest tuples of failed lamps."""
    found = []
    for seed, table in enumerate(plain.small_tables()):
        for notes in plain.some_notes(table, seed)[seed % 2::2]:
            found.append((table, notes, smallest(table, notes)))
    return found


CASES = cases()


class AllFailed(DimmerCase):
    def test_every_case(self):
        for table, notes, right in CASES:
            size = len(right[0]) if right else 9
            for most in range(4):
                with self.subTest(str(table), notes=str(notes), most=most):
                    self.assertEqual(right if size <= most else [], all_failed(table, notes, most=most))
            self.assertEqual(right if size <= 2 else [], all_failed(table, notes))

    def test_the_cases_are_of_every_kind(self):
        sizes = [len(right[0]) if right else None for _, _, right in CASES]
        for size in [0, 1, 2, 3, None]:
            self.assertGreater(sizes.count(size), 1)

    def test_an_order_that_fits_already(self):
        for text in plain.WITH_ORDER:
            for most in range(4):
                self.assertEqual([()], all_failed(Table.read(text), most=most))

    def test_any_of_three_lamps(self):
        table = Table.read(TRIANGLE)
        self.assertEqual([[], [("a",), ("b",), ("c",)]], [all_failed(table, most=most) for most in [0, 1]])

    def test_ascending_as_strings(self):
        found = all_failed(rounds(12), most=1)
        self.assertEqual(sorted((name,) for name in names(12)), found)
        found = all_failed(rounds(9, 3))
        self.assertEqual([tuple(sorted([one, two])) for one, two in found], found)
        self.assertEqual((27, sorted(found)), (len(found), found))

    def test_lamps_that_no_look_shows_or_that_are_not_at_fault(self):
        lamps, *looks = TRIANGLE.split("\n")
        table = Table.read("\n".join([lamps + " d e", *[look + " e" for look in looks]]))
        self.assertEqual([("a",), ("b",), ("c",)], all_failed(table))

    def test_notes(self):
        table = Table.read(TEXT)
        notes = Notes(("x", "y"), ("z", "y"))
        self.assertEqual([("a",), ("b",)], all_failed(table, notes))
        self.assertEqual([], all_failed(table, notes, most=0))

    def test_no_number_is_enough(self):
        for most in range(4):
            self.assertEqual([], all_failed(Table.read(TEXT), CONTRARY, most=most))
            self.assertEqual([], all_failed(Table([], [("x", []), ("y", [])]), CONTRARY, most=most))

    def test_more_lamps_than_most(self):
        self.assertEqual([], all_failed(rounds(3, 3, 3)))
        self.assertEqual(27, len(all_failed(rounds(3, 3, 3), most=3)))
        self.assertEqual([], all_failed(rounds(3, 3, 3, 3), most=3))

    def test_24_looks_and_24_lamps(self):
        self.assertEqual([(name,) for name in sorted(names(24))], all_failed(rounds(24)))
        self.assertEqual(144, len(all_failed(rounds(12, 12))))
        self.assertEqual(512, len(all_failed(rounds(8, 8, 8), most=3)))
        self.assertEqual([], all_failed(rounds(6, 6, 6, 6), most=3))

    def test_most_is_passed_by_name(self):
        for call in [all_failed, fewest_failed]:
            self.assertRaises(TypeError, call, Table.read(TEXT), None, 1)


class Errors(DimmerCase):
    def test_most(self):
        for call in [all_failed, fewest_failed]:
            for most in [4, 5, 24, 10 ** 30]:
                self.assert_limit(3, call, Table.read(TEXT), most=most)
                self.assert_limit(3, call, Table.read(TRIANGLE), Notes(("x", "q")), most=most)

    def test_a_note_with_an_unknown_look(self):
        notes = Notes(("x", "q"), ("p", "x")) + CONTRARY
        for call in [all_failed, fewest_failed]:
            for text in [TEXT, TRIANGLE, "lamps a"]:
                for most in range(4):
                    found = self.assert_raises(UnknownName, call, Table.read(text), notes, most=most)
                    self.assertEqual("p", found.name)
            found = self.assert_raises(UnknownName, call, Table([], []), CONTRARY, most=0)
            self.assertEqual("x", found.name)


class Fewest(unittest.TestCase):
    def test_every_case(self):
        for table, notes, right in CASES:
            for most in range(4):
                with self.subTest(str(table), notes=str(notes), most=most):
                    found = fewest_failed(table, notes, most=most)
                    self.assertIs(Failure, found.__class__)
                    lamps = right[0] if right and len(right[0]) <= most else None
                    self.assertEqual(lamps, found.lamps)
                    self.assert_paper(table, notes, most if lamps is None else len(lamps) - 1, found.paper)

    def assert_paper(self, table, notes, number, paper):
        """The paper is one for this number, or None if the number is below 0, and it is checked for all numbers."""
        if number < 0:
            self.assertIsNone(paper)
            return
        self.assertIs(tuple, paper.__class__)
        self.assertTrue(papers.is_failure_paper(table, notes, number, paper))
        for most in range(5):
            right = papers.is_failure_paper(table, notes, most, paper)
            self.assertIs(right, failure_holds(table, notes, most, paper))

    def test_most_is_2_if_it_is_not_given(self):
        table = rounds(3, 3, 3)
        found = fewest_failed(table)
        self.assertIsNone(found.lamps)
        self.assert_paper(table, Notes(), 2, found.paper)
        self.assertEqual(("n0", "n3", "n6"), fewest_failed(table, most=3).lamps)

    def test_an_order_that_fits_already(self):
        for text in plain.WITH_ORDER:
            for most in range(4):
                found = fewest_failed(Table.read(text), most=most)
                self.assertEqual(((), None), (found.lamps, found.paper))

    def test_a_ring_that_uses_no_lamp(self):
        for table in [Table.read(TEXT), Table([], [("x", []), ("y", [])])]:
            for most in range(4):
                found = fewest_failed(table, CONTRARY, most=most)
                self.assertIsNone(found.lamps)
                (word, ring), branches = found.paper
                self.assertEqual(("ring", []), (word, branches))
                self.assertTrue(plain.is_ring(table, CONTRARY, ring))

    def test_24_looks_and_24_lamps(self):
        for table in [rounds(24), rounds(12, 12), rounds(8, 8, 8), rounds(6, 6, 6, 6), rounds(*[3] * 8)]:
            found = fewest_failed(table, most=3)
            self.assert_paper(table, Notes(), 3 if found.lamps is None else len(found.lamps) - 1, found.paper)


class Holds(unittest.TestCase):
    def test_changed_papers(self):
        many = {True: 0, False: 0}
        for table, notes, right in CASES[::3]:
            for most in range(3):
                found = fewest_failed(table, notes, most=most)
                if found.paper is not None:
                    number = most if found.lamps is None else len(found.lamps) - 1
                    for other in papers.changed_failures(table, found.paper)[most::7]:
                        held = papers.is_failure_paper(table, notes, number, other)
                        self.assertIs(held, failure_holds(table, notes, number, other))
                        many[held] += 1
        self.assertGreater(many[True], 20)
        self.assertGreater(many[False], 1000)

    def test_all_changes_of_some_papers(self):
        for table, notes in [(rounds(3, 3), Notes()), (Table.read(TEXT), Notes(("x", "y"), ("z", "y"))),
                             (Table.read(plain.WITHOUT_ORDER[4]), Notes(("u", "w"), ("w", "u")))]:
            found = fewest_failed(table, notes)
            number = 2 if found.lamps is None else len(found.lamps) - 1
            for other in papers.changed_failures(table, found.paper):
                with self.subTest(str(table), paper=other):
                    held = papers.is_failure_paper(table, notes, number, other)
                    self.assertIs(held, failure_holds(table, notes, number, other))

    def test_a_paper_with_another_bar(self):
        table = Table.read(TRIANGLE)
        steps = bar(table)
        for other in [steps, [(after, before, lamp) for before, after, lamp in steps]]:
            self.assertIs(True, failure_holds(table, None, 0, (("bar", other), [])))
            self.assertIs(False, failure_holds(table, None, 1, (("bar", other), [])))

    def test_a_bar_in_the_place_of_a_ring(self):
        table = Table.read(TRIANGLE)
        ring = [[("x", "y", None)], [("y", "x", None)]]
        for most in range(5):
            self.assertIs(True, failure_holds(table, CONTRARY, most, (("ring", ring), [])))
            self.assertIs(False, failure_holds(table, None, most, (("ring", ring), [])))
            self.assertIs(False, failure_holds(table, CONTRARY, most, (("bar", ring), [])))
            self.assertIs(False, failure_holds(table, CONTRARY, most, (("ring", bar(table)), [])))

    def test_empty_papers(self):
        table = Table.read(TRIANGLE)
        for most in range(3):
            for word in ["bar", "ring", "lamp", ""]:
                self.assertIs(False, failure_holds(table, CONTRARY, most, ((word, []), [])))

    def test_branches_of_a_paper(self):
        table = rounds(3, 3)
        conflict, branches = fewest_failed(table).paper
        self.assertEqual(["n0", "n1", "n2"], [lamp for lamp, _ in branches])
        self.assertIs(True, failure_holds(table, None, 1, (conflict, branches)))
        (lamp, inner), *rest = branches
        for other in [[], rest, branches[::-1], branches + branches[:1], [("q", inner), *rest], [("x0", inner), *rest],
                      [("n3", inner), *rest], [(lamp, (conflict, [])), *rest], [(lamp, (inner[0], branches)), *rest]]:
            self.assertIs(False, failure_holds(table, None, 1, (conflict, other)))

    def test_a_number_that_is_too_small_or_too_great(self):
        table = rounds(3, 3, 3)
        paper = fewest_failed(table, most=3).paper
        held = [failure_holds(table, None, most, paper) for most in range(6)]
        self.assertEqual([False, False, True, False, False, False], held)

    def test_a_note_with_an_unknown_look(self):
        table, notes = Table.read(TEXT), Notes(("x", "y"), ("z", "y"))
        paper = fewest_failed(table, notes).paper
        self.assertIs(True, failure_holds(table, notes, 0, paper))
        self.assertIs(True, failure_holds(table, notes + Notes(("q", "x"), ("x", "q")), 0, paper))
        ring = [[("x", "q", None)], [("q", "x", None)]]
        self.assertIs(False, failure_holds(table, Notes(("q", "x"), ("x", "q")), 0, (("ring", ring), [])))
        paper = fewest_failed(rounds(3, 3)).paper
        self.assertIs(True, failure_holds(rounds(3, 3), Notes(("p", "q")), 1, paper))

    def test_a_paper_for_another_table(self):
        paper = fewest_failed(rounds(3, 3)).paper
        for table in [rounds(3), rounds(6), rounds(3, 3).without("n4"), rounds(3, 3).without("n1"), Table([], [])]:
            self.assertIs(False, failure_holds(table, None, 1, paper))


class Unchanged(unittest.TestCase):
    def test_arguments_stay_as_they_are(self):
        for table, notes, _ in CASES[::9]:
            before = str(table), str(notes)
            all_failed(table, notes)
            paper = fewest_failed(table, notes).paper
            if paper is not None:
                text = repr(paper)
                failure_holds(table, notes, 1, paper)
                self.assertEqual(text, repr(paper))
            self.assertEqual(before, (str(table), str(notes)))

    def test_a_list_that_is_returned_belongs_to_the_caller(self):
        for table in [Table.read(TEXT), Table.read(TRIANGLE)]:
            found = all_failed(table)
            before = list(found)
            found.clear()
            self.assertEqual(before, all_failed(table))


if __name__ == "__main__":
    unittest.main()
