"""The examples of the document, as far as their modules are there."""

import unittest

from dimmerlog.errors import InvalidLine, UnknownName
from dimmerlog.tables import Table
from tests.cases import DimmerCase


class Tables(DimmerCase):
    def test_calls_of_a_table(self):
        table = Table.read('lamps a b\nlook x a\nlook y a b\nlook z b')
        found = [table.shown('y'), table.seen('a'), table['b', 'x'], len(table)]
        self.assertEqual([('a', 'b'), ('x', 'y'), False, 3], found)

    def test_a_look_with_an_unknown_lamp(self):
        error = self.assert_raises(UnknownName, Table, ['a', 'b'], [('x', ['b', 'c'])])
        self.assertEqual('c', error.name)

    def test_two_spaces_in_a_row(self):
        error = self.assert_raises(InvalidLine, Table.read, 'lamps a\nlook x  a')
        self.assertEqual(2, error.line)


if __name__ == "__main__":
    unittest.main()
