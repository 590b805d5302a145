"""What tests of several files check of every call."""

import copy
import unittest

from clockslack.errors import CellError


def by_position(function, arguments):
    """Call with all arguments by position but by, which is passed by name only."""
    named = {name: value for name, value in arguments.items() if name == "by"}
    return function(*[value for name, value in arguments.items() if name != "by"], **named)


class Checked(unittest.TestCase):

    def result(self, function, **arguments):
        """Call by position, by name and once more with equal arguments: all is the same, nothing is changed."""
        # The text also tells True from 1, which are equal.
        before = repr(arguments)
        backwards = {name: arguments[name] for name in reversed(arguments)}
        found = by_position(function, arguments)
        for again in (function(**backwards), function(**copy.deepcopy(arguments))):
            self.assertEqual(repr(again), repr(found))
        self.assertEqual(repr(arguments), before)
        return found

    def accepts(self, function, **arguments):
        self.assertIs(self.result(function, **arguments), True, arguments)

    def refuses(self, function, **arguments):
        self.assertIs(self.result(function, **arguments), False, arguments)

    def raises(self, error, told, function, **arguments):
        """Check that exactly this error is raised, in each way to call, with these attributes."""
        before = repr(arguments)
        backwards = {name: arguments[name] for name in reversed(arguments)}
        for call in (lambda: by_position(function, arguments), lambda: function(**backwards),
                     lambda: function(**arguments)):
            with self.assertRaises(CellError) as held:
                call()
            self.assertIs(held.exception.__class__, error)
            self.assertEqual(repr(vars(held.exception)), repr(told))
            self.assertIsNone(held.exception.__context__)
            self.assertIsNone(held.exception.__cause__)
        self.assertEqual(repr(arguments), before)
