"""A test case that can ask for an error with its attributes."""

import unittest

from dimmerlog.errors import InvalidLine, InvalidNote, NoOrder, TooMany


class DimmerCase(unittest.TestCase):
    def assert_raises(self, error, call, *args, **named):
        """The call raises exactly this class of error; return the error."""
        with self.assertRaises(error) as caught:
            call(*args, **named)
        self.assertIs(error, caught.exception.__class__)
        return caught.exception

    def assert_names(self, error, name, call, *args, **named):
        """The call raises this error, whose name is this very value."""
        self.assertIs(name, self.assert_raises(error, call, *args, **named).name)

    def assert_line(self, line, call, *args):
        """The call raises InvalidLine for this line."""
        self.assertEqual(line, self.assert_raises(InvalidLine, call, *args).line)

    def assert_limit(self, limit, call, *args, **named):
        """The call raises TooMany with this limit."""
        self.assertEqual(limit, self.assert_raises(TooMany, call, *args, **named).limit)

    def assert_note(self, before, after, call, *args, **named):
        """The call raises InvalidNote with these two names."""
        error = self.assert_raises(InvalidNote, call, *args, **named)
        self.assertEqual((before, after), (error.before, error.after))

    def assert_no_order(self, call, *args, **named):
        """The call raises NoOrder; return its bar and its ring."""
        error = self.assert_raises(NoOrder, call, *args, **named)
        return error.bar, error.ring
