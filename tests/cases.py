"""What the tests of all modules share."""

import unittest

from stubbornest.errors import BenchError


class Case(unittest.TestCase):
    """Compares values together with their kinds, and errors together with their fields."""

    def same(self, got, want, *told):
        self.assertEqual(repr(got), repr(want), told)

    def raised(self, call, *args, **named):
        """The error that the call raises."""
        with self.assertRaises(BenchError) as caught:
            call(*args, **named)
        return caught.exception

    def fails(self, kind, fields, call, *args, **named):
        """Expects an error of exactly this class with exactly these fields."""
        error = self.raised(call, *args, **named)
        self.assertIs(error.__class__, kind, (args, named, vars(error)))
        self.same(vars(error), fields, args, named)
