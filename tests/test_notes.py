"""Promises 1 and 21 to 23: notes."""

import unittest
from itertools import combinations, permutations

from dimmerlog.errors import InvalidName
from dimmerlog.notes import Notes
from tests.cases import DimmerCase
from tests.values import RIGHT_NAMES, WRONG_NAMES, Pretender, names

PAIRS = list(permutations("xyz", 2))


def notes_of(text):
    """Return the notes that a text writes, each as two letters: "xy yz"."""
    return Notes(*[tuple(word) for word in text.split()])


def some_notes():
    """Return all Notes objects over three names with at most three notes."""
    return [Notes(*pairs) for many in range(4) for pairs in combinations(PAIRS, many)]


class Making(DimmerCase):
    def test_pairs_ascend(self):
        notes = Notes(("y", "z"), ("x", "z"), ("x", "y"))
        self.assertEqual((("x", "y"), ("x", "z"), ("y", "z")), notes.pairs)
        self.assertIs(tuple, notes.pairs.__class__)
        self.assertEqual((("1", "x"), ("10", "x"), ("9", "x")), Notes(("9", "x"), ("10", "x"), ("1", "x")).pairs)

    def test_no_notes(self):
        self.assertEqual(((), 0, ""), (Notes().pairs, len(Notes()), str(Notes())))

    def test_a_note_that_is_given_twice_counts_once(self):
        notes = Notes(("x", "y"), ("y", "z"), ("x", "y"))
        self.assertEqual((("x", "y"), ("y", "z")), notes.pairs)
        self.assertEqual((2, "x < y, y < z"), (len(notes), str(notes)))

    def test_notes_may_contradict_each_other(self):
        self.assertEqual((("x", "y"), ("y", "x")), Notes(("y", "x"), ("x", "y")).pairs)
        self.assertEqual(6, len(Notes(*PAIRS)))

    def test_right_names(self):
        for name in RIGHT_NAMES:
            self.assertEqual((("x", name),), Notes(("x", name)).pairs)
            self.assertEqual(((name, "x"),), Notes((name, "x")).pairs)

    def test_wrong_names(self):
        for name in WRONG_NAMES:
            with self.subTest(str(name)[:20]):
                self.assert_names(InvalidName, name, Notes, (name, "x"))
                self.assert_names(InvalidName, name, Notes, ("x", name))
                self.assert_names(InvalidName, name, Notes, (name, name))

    def test_equal_names(self):
        self.assert_note("x", "x", Notes, ("x", "x"))
        self.assert_note("y", "y", Notes, ("x", "y"), ("y", "y"), ("z", "z"))

    def test_errors_in_their_order(self):
        self.assert_names(InvalidName, "X", Notes, ("X", "Y"))
        self.assert_names(InvalidName, "Y", Notes, ("x", "Y"), ("X", "y"))
        self.assert_note("x", "x", Notes, ("x", "x"), ("X", "y"))
        self.assert_names(InvalidName, "X", Notes, ("X", "y"), ("x", "x"))
        self.assert_names(InvalidName, "X", Notes, ("x", "y"), ("x", "y"), ("X", "X"))

    def test_many_notes(self):
        pairs = list(permutations(names(40), 2))
        self.assertEqual(1560, len(Notes(*pairs)))
        self.assertEqual(tuple(sorted(pairs)), Notes(*pairs).pairs)


class Operators(unittest.TestCase):
    def test_sums_and_differences(self):
        for first in some_notes():
            for second in some_notes():
                self.assertEqual(tuple(sorted(set(first.pairs) | set(second.pairs))), (first + second).pairs)
                self.assertEqual(tuple(sorted(set(first.pairs) - set(second.pairs))), (first - second).pairs)

    def test_reverse(self):
        for notes in some_notes():
            self.assertEqual(tuple(sorted(pair[::-1] for pair in notes.pairs)), (-notes).pairs)
            self.assertEqual(notes, --notes)

    def test_operators_return_notes(self):
        for found in [notes_of("xy") + notes_of("yz"), notes_of("xy") - Notes(), -notes_of("xy")]:
            self.assertIs(Notes, found.__class__)

    def test_which_pairs_are_notes(self):
        for notes in some_notes():
            for pair in [*PAIRS, ("x", "x"), ("x", "q"), ("X", "")]:
                self.assertIs(pair in notes.pairs, pair in notes)
        self.assertFalse("x" in notes_of("xy"))
        self.assertFalse(("y", "x") in notes_of("xy"))

    def test_equality(self):
        for first in some_notes():
            for second in some_notes():
                self.assertIs(first.pairs == second.pairs, first == second)
                self.assertIs(first.pairs != second.pairs, first != second)
        self.assertTrue(notes_of("yz xy xy") == notes_of("xy yz"))

    def test_other_values_are_not_equal(self):
        for notes in [Notes(), notes_of("xy"), notes_of("xy yz")]:
            for other in [None, 0, "", str(notes), notes.pairs, list(notes.pairs), set(notes.pairs), [], (), Pretender()]:
                self.assertIs(False, notes == other)
                self.assertIs(True, notes != other)

    def test_text(self):
        self.assertEqual("x < y", str(notes_of("xy")))
        self.assertEqual("x < y, y < x, z < x", str(notes_of("zx yx xy")))

    def test_number(self):
        self.assertEqual([0, 1, 2], [len(notes_of(text)) for text in ["", "xy", "xy yx"]])

    def test_iteration(self):
        notes = notes_of("zx xy yx")
        self.assertEqual([("x", "y"), ("y", "x"), ("z", "x")], list(notes))
        self.assertEqual(list(notes), [pair for pair in notes])
        self.assertEqual([], list(Notes()))


class About(unittest.TestCase):
    def test_the_notes_that_name_a_look(self):
        notes = notes_of("xy yz zx xw")
        for look in "wxyz":
            self.assertEqual(Notes(*[pair for pair in notes.pairs if look in pair]), notes.about(look))
        self.assertEqual("x < w", str(notes.about("w")))
        self.assertEqual("x < w, x < y, z < x", str(notes.about("x")))

    def test_a_look_that_no_note_names(self):
        for look in ["q", "xy", "", "X"]:
            self.assertEqual(Notes(), notes_of("xy yz").about(look))
        self.assertEqual(Notes(), Notes().about("x"))

    def test_a_name_inside_another_one(self):
        self.assertEqual("a < b", str(Notes(("a", "b"), ("ab", "ba")).about("a")))


class Closed(unittest.TestCase):
    def test_against_a_plain_search(self):
        for notes in [*some_notes(), notes_of("ab bc cd"), notes_of("ab cb cd ed"), notes_of("ab bc ca de"),
                      notes_of("ab bc cd db be"), notes_of("dc cb ba"), notes_of("ab cd")]:
            with self.subTest(str(notes)):
                found = set(notes.pairs)
                for _ in range(6):
                    found |= {(x, z) for x, y in found for other, z in found if y == other}
                self.assertEqual(tuple(sorted((x, y) for x, y in found if x != y)), notes.closed().pairs)

    def test_a_round_of_notes(self):
        self.assertEqual(Notes(*PAIRS), notes_of("xy yz zx").closed())
        self.assertEqual(notes_of("xy yx"), notes_of("xy yx").closed())

    def test_no_notes_and_one_note(self):
        self.assertEqual(Notes(), Notes().closed())
        self.assertEqual(notes_of("xy"), notes_of("xy").closed())

    def test_a_long_line(self):
        looks = names(60)
        closed = Notes(*zip(looks, looks[1:])).closed()
        self.assertEqual(tuple(sorted(combinations(looks, 2))), closed.pairs)
        self.assertEqual(60 * 59, len(Notes(*zip(looks, looks[1:] + looks[:1])).closed()))


class Unchanged(unittest.TestCase):
    def test_notes_that_were_made_before_stay_as_they_were(self):
        first, second = notes_of("xy yz"), notes_of("yz zx")
        first + second, first - second, -first, first.about("x"), first.closed(), ("x", "y") in first, first == second
        self.assertEqual(("x < y, y < z", "y < z, z < x"), (str(first), str(second)))

    def test_sums_do_not_change_later(self):
        first = notes_of("xy")
        both = first + Notes()
        both += notes_of("yz")
        self.assertEqual(("x < y", "x < y, y < z"), (str(first), str(both)))

    def test_later_changes_to_the_pairs_have_no_effect(self):
        pairs = [("x", "y"), ("y", "z")]
        notes = Notes(*pairs)
        pairs.clear()
        list(notes).clear()
        self.assertEqual("x < y, y < z", str(notes))


if __name__ == "__main__":
    unittest.main()
