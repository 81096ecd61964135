"""The examples of the document."""

import unittest

from dimmerlog.arranging import arrange
from dimmerlog.charts import chart
from dimmerlog.desk import Desk
from dimmerlog.errors import InvalidLine, UnknownName
from dimmerlog.failures import fewest_failed
from dimmerlog.further import may_show, prospects
from dimmerlog.notes import Notes
from dimmerlog.sliders import split
from dimmerlog.solving import solve
from dimmerlog.steps import chain, tied
from dimmerlog.tables import Table
from dimmerlog.trees import OrderTree
from tests.cases import DimmerCase


class Tables(DimmerCase):
    def test_calls_of_a_table(self):
        table = Table.read('lamps a b\nlook x a\nlook y a b\nlook z b')
        found = [table.shown('y'), table.seen('a'), table['b', 'x'], len(table)]
        self.assertEqual([('a', 'b'), ('x', 'y'), False, 3], found)

    def test_a_look_with_an_unknown_lamp(self):
        error = self.assert_raises(UnknownName, Table, ['a', 'b'], [('x', ['b', 'c'])])
        self.assertEqual('c', error.name)

    def test_two_spaces_in_a_row(self):
        error = self.assert_raises(InvalidLine, Table.read, 'lamps a\nlook x  a')
        self.assertEqual(2, error.line)


class Trees(DimmerCase):
    def test_two_names_side_by_side(self):
        tree = OrderTree(['a', 'b', 'c', 'd']) & ['a', 'c']
        self.assertEqual(['((a c) b d)', 12], [str(tree), tree.total])

    def test_a_row(self):
        tree = OrderTree(['a', 'b', 'c', 'd']) & ['d', 'b'] & ['b', 'a']
        self.assertEqual(['([a b d] c)', ('a', 'b', 'd', 'c')], [str(tree), list(tree.orders())[0]])

    def test_no_order(self):
        tree = OrderTree(['a', 'b', 'c']) & ['a', 'b'] & ['b', 'c']
        self.assertEqual((None, None), self.assert_no_order(lambda: tree & ['a', 'c']))


class Steps(DimmerCase):
    def setUp(self):
        self.table = Table.read('lamps a b\nlook x a\nlook y a b\nlook z b')

    def test_a_chain(self):
        found = chain(self.table, ('x', 'z'), ('y', 'z'))
        self.assertEqual([('x', 'z', None), ('y', 'z', 'a')], found)

    def test_tied_pairs(self):
        self.assertEqual([('x', 'y'), ('x', 'z'), ('y', 'z')], tied(self.table, ('x', 'y')))

    def test_notes(self):
        notes = Notes(('y', 'z'), ('x', 'y'))
        found = [str(notes), str(-notes), str(notes.closed())]
        self.assertEqual(['x < y, y < z', 'y < x, z < y', 'x < y, x < z, y < z'], found)

    def test_the_least_order(self):
        solution = solve(self.table, Notes(('z', 'x')))
        self.assertEqual([('z', 'y', 'x'), None, None], [solution.order, solution.bar, solution.ring])

    def test_notes_that_no_order_keeps(self):
        self.assertIsNone(solve(self.table, Notes(('x', 'y'), ('x', 'z'), ('z', 'y'))).order)


class Settings(DimmerCase):
    def setUp(self):
        self.table = Table.read('lamps a b\nlook x a\nlook y a b\nlook z b')

    def test_an_arrangement(self):
        arrangement = arrange(self.table)
        found = [arrangement.settings['y'], arrangement.stretches['a'], arrangement.stretches['b'],
                 (arrangement + 10)(12)]
        self.assertEqual([2, (1, 2), (2, 3), ('a', 'b')], found)

    def test_a_further_look(self):
        found = [may_show(self.table, None, []), may_show(self.table, None, ['a', 'b']),
                 prospects(self.table, None, 'x', 'y')]
        self.assertEqual([True, True, {'a': 'on', 'b': 'open'}], found)

    def test_a_lamp_that_no_look_shows(self):
        table = Table.read('lamps a b c\nlook x a\nlook y a b\nlook z b')
        self.assertEqual({'a': 'on', 'b': 'open', 'c': 'open'}, prospects(table, None, 'x', 'y'))

    def test_a_note_with_an_unknown_look(self):
        table = Table(['a'], [('x', [])])
        error = self.assert_raises(UnknownName, may_show, table, Notes(('new0', 'x')), ['a'])
        self.assertEqual('new0', error.name)


class Failures(unittest.TestCase):
    def test_failed_lamps(self):
        table = Table(['a', 'b', 'c'], [('x', ['a', 'b']), ('y', ['b', 'c']), ('z', ['a', 'c'])])
        self.assertEqual(('a',), fewest_failed(table).lamps)

    def test_two_sliders(self):
        table = Table(['a', 'b', 'c'], [('x', ['a', 'b']), ('y', ['b', 'c']), ('z', ['a', 'c'])])
        self.assertEqual([('a', 'b'), ('c',)], [split(table).first, split(table).second])


class Desks(unittest.TestCase):
    def test_a_desk(self):
        desk = Desk()
        answers = desk.run('lamp a\nlook x a\nlook y\norder\ncount\nundo')
        self.assertEqual(['ok', 'ok', 'ok', 'order x y', '2', 'ok'], answers)

    def test_a_chart(self):
        table = Table.read('lamps a b\nlook x a\nlook y a b\nlook z b')
        self.assertEqual('a            .##   2\nb            ##.   2', chart(table, ['z', 'y', 'x']))


if __name__ == "__main__":
    unittest.main()
