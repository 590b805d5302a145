"""Section 18: the errors."""

import unittest

from clockslack import errors
from clockslack.errors import CellError
from samples import odd_values

ARGUMENTS = {
    "NoIndex": ("index",),
    "NoValue": ("value",),
    "Unexplained": ("fault",),
    "BadOrder": ("value",),
    "NoPosition": ("position",),
    "BadStamps": ("begin", "end"),
    "BadLog": ("value",),
    "BadTolerance": ("value",),
    "BadOperation": ("operation",),
    "Written": ("value",),
    "TooMany": ("limit",),
    "NothingToUndo": (),
    "BadText": ("value",),
    "BadLine": ("line",),
}


def any_values():
    return odd_values() + [0, -1, 200, 10 ** 30, 10 ** 5000, ("late", 0, 1)]


class Family(unittest.TestCase):

    def test_cell_error_is_directly_below_value_error(self):
        self.assertEqual(CellError.__bases__, (ValueError,))
        self.assertEqual(CellError.__module__, "clockslack.errors")

    def test_each_error_is_defined_here_and_directly_below_cell_error(self):
        self.assertEqual(len(ARGUMENTS), 14)
        for name in ARGUMENTS:
            with self.subTest(name):
                made = getattr(errors, name)
                self.assertEqual(made.__name__, name)
                self.assertEqual(made.__module__, "clockslack.errors")
                self.assertEqual(made.__bases__, (CellError,))

    def test_each_error_is_an_instance_of_no_other_one(self):
        for name, arguments in ARGUMENTS.items():
            error = getattr(errors, name)(*[7 for _ in arguments])
            found = [other for other in ARGUMENTS if isinstance(error, getattr(errors, other))]
            self.assertEqual(found, [name])
            self.assertIsInstance(error, CellError)
            self.assertIsInstance(error, ValueError)

    def test_each_error_can_be_raised_and_caught_by_its_names(self):
        for name, arguments in ARGUMENTS.items():
            own = getattr(errors, name)
            for caught in (own, CellError, ValueError):
                with self.subTest(name, caught=caught.__name__):
                    with self.assertRaises(caught) as held:
                        raise own(*[7 for _ in arguments])
                    self.assertIs(held.exception.__class__, own)


class Arguments(unittest.TestCase):

    def check(self, error, name, values):
        self.assertIs(error.__class__, getattr(errors, name))
        for argument, value in values.items():
            self.assertIs(getattr(error, argument), value, (name, argument))
        self.assertEqual(vars(error), values)

    def samples(self):
        for name, arguments in ARGUMENTS.items():
            for value in any_values():
                # The second one differs, so that two arguments cannot be mixed up.
                yield name, dict(zip(arguments, (value, [value])))

    def test_by_position(self):
        for name, values in self.samples():
            self.check(getattr(errors, name)(*values.values()), name, values)

    def test_by_name(self):
        for name, values in self.samples():
            self.check(getattr(errors, name)(**values), name, values)

    def test_by_name_in_another_sequence(self):
        error = errors.BadStamps(end=2, begin=1)
        self.assertEqual((error.begin, error.end), (1, 2))

    def test_first_by_position_then_by_name(self):
        error = errors.BadStamps(1, end=2)
        self.assertEqual((error.begin, error.end), (1, 2))

    def test_each_object_keeps_its_own(self):
        one, other = errors.NoIndex(1), errors.NoIndex(2)
        self.assertEqual((one.index, other.index), (1, 2))


if __name__ == "__main__":
    unittest.main()
