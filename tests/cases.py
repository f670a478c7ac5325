"""Checks that the test cases share."""

import unittest

from tests.examples import raised


class ErrorCase(unittest.TestCase):
    def assert_raises(self, expected, call):
        """The call raises an error of just this class that keeps just what the expected one keeps."""
        error = raised(call)
        self.assertIs(error.__class__, expected.__class__, repr(error))
        self.assertEqual(repr(vars(error)), repr(vars(expected)))

    def assert_equal(self, one, other, expected):
        """`==` and `!=` tell in both directions whether the values are equal."""
        self.assertIs(one == other, expected, other)
        self.assertIs(other == one, expected, other)
        self.assertIs(one != other, not expected, other)
        self.assertIs(other != one, not expected, other)

    def assert_listed(self, module, owner, names):
        """The class stands in this module, and these names stand in its body."""
        self.assertEqual(owner.__module__, module.__name__)
        for name in names.split():
            self.assertIn(name, vars(owner))

    def assert_no_iteration(self, value):
        self.assertRaises(TypeError, iter, value)
        self.assertRaises(TypeError, list, value)
        self.assertRaises(TypeError, lambda: [part for part in value])

    def assert_fixed(self, value, names):
        """The properties cannot be assigned."""
        for name in names.split():
            self.assertRaises(AttributeError, lambda: setattr(value, name, ()))
