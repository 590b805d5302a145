"""Sections 2, 3 (points 5 and 6) and 6: the values of a log."""

import copy
import unittest

from clockslack.errors import CellError, NoValue
from clockslack.values import first_end, is_before, last_begin, operations_of, values_of, write_of
from samples import EARLY, LOG, LOST, ZERO, deepest_values, odd_values, writes

STAMP = 10 ** 15
GREATEST = 10 ** 9

# Reads ahead of their write, values out of order, 0, and a value without a write.
MIXED = (("read", 30, 4, 9), ("read", 0, -7, -5), ("write", 30, 2, 6), ("read", 9, 1, 1), ("read", 30, 3, 7),
         ("write", 4, -3, -1), ("read", 0, -9, 8), ("write", 100, 0, 0))


class Examples(unittest.TestCase):

    def test_section_6(self):
        self.assertEqual(
            [values_of(LOG), operations_of(LOG, 1), write_of(LOG, 2), first_end(LOG, 1), last_begin(LOG, 1),
             values_of(())],
            [(1, 2), (0, 1, 3), 2, 4, 12, ()])

    def test_section_6_is_before(self):
        self.assertEqual(
            [is_before(LOG, 1, 1, 2), is_before(LOG, 2, 1, 2), is_before(LOG, 3, 2, 1), first_end(ZERO, 0),
             is_before(ZERO, 9, 0, 1)],
            [True, False, True, None, True])

    def test_section_6_no_value(self):
        with self.assertRaises(NoValue) as held:
            first_end(LOG, 0)
        self.assertEqual(held.exception.value, 0)


class ValuesOf(unittest.TestCase):

    def check(self, log, values):
        found = values_of(log)
        self.assertIs(found.__class__, tuple)
        self.assertEqual(found, values)
        self.assertEqual(values_of(log=log), values)

    def test_ascending_and_each_once(self):
        self.check(MIXED, (0, 4, 9, 30, 100))
        self.check(LOG, (1, 2))
        self.check(tuple(reversed(LOG)), (1, 2))

    def test_0_only_if_an_operation_has_it(self):
        self.check(ZERO, (0, 1))
        self.check(EARLY, (1,))
        self.check((("read", 0, 0, 1),) * 3, (0,))

    def test_values_without_a_write_count(self):
        self.check(LOST, (7,))

    def test_the_empty_log(self):
        self.check((), ())

    def test_the_greatest_value(self):
        self.check((("write", GREATEST, 0, 1), ("read", 0, 0, 1)), (0, GREATEST))

    def test_a_full_log(self):
        self.check(tuple(reversed(writes(200))), tuple(range(1, 201)))


class OperationsOf(unittest.TestCase):

    def check(self, log, value, indexes):
        found = operations_of(log, value)
        self.assertIs(found.__class__, tuple)
        self.assertEqual(found, indexes)
        self.assertEqual(operations_of(value=value, log=log), indexes)

    def test_reads_and_writes(self):
        self.check(MIXED, 30, (0, 2, 4))
        self.check(MIXED, 0, (1, 6))
        self.check(MIXED, 9, (3,))
        self.check(MIXED, 4, (5,))
        self.check(MIXED, 100, (7,))
        self.check(LOG, 2, (2,))

    def test_a_full_log(self):
        self.check(LOST * 200, 7, tuple(range(200)))
        self.check(writes(200), 200, (199,))


class WriteOf(unittest.TestCase):

    def check(self, log, value, index):
        found = write_of(log, value)
        self.assertEqual(found, index)
        self.assertIs(found.__class__, index.__class__)
        self.assertEqual(write_of(value=value, log=log), index)

    def test_the_index_of_the_write(self):
        self.check(MIXED, 30, 2)
        self.check(MIXED, 4, 5)
        self.check(MIXED, 100, 7)
        self.check(EARLY, 1, 1)

    def test_the_first_index(self):
        self.check(LOG, 1, 0)
        self.check(ZERO, 1, 0)

    def test_none(self):
        self.check(MIXED, 9, None)
        self.check(MIXED, 0, None)
        self.check(LOST, 7, None)
        self.check(ZERO, 0, None)


class FirstEnd(unittest.TestCase):

    def check(self, log, value, stamp):
        self.assertEqual(first_end(log, value), stamp)
        self.assertIs(first_end(value=value, log=log).__class__, stamp.__class__)

    def test_the_least_end(self):
        self.check(MIXED, 30, 6)
        self.check(MIXED, 9, 1)
        self.check(MIXED, 4, -1)
        self.check(LOG, 1, 4)
        self.check(LOG, 2, 8)

    def test_the_least_end_is_of_any_operation(self):
        operations = (("write", 1, 0, 10), ("read", 1, 1, 9), ("read", 1, 3, 8))
        for log in (operations, operations[::-1], operations[1:] + operations[:1]):
            self.check(log, 1, 8)
        self.check((("write", 1, 0, 2), ("read", 1, 1, 9)), 1, 2)

    def test_an_end_of_0_is_no_none(self):
        self.check(MIXED, 100, 0)

    def test_none_for_0(self):
        self.check(ZERO, 0, None)
        self.check(MIXED, 0, None)

    def test_stamps_at_their_limits(self):
        self.check((("write", 1, -STAMP, -STAMP), ("read", 1, -STAMP, STAMP)), 1, -STAMP)
        self.check((("write", 1, STAMP, STAMP),), 1, STAMP)


class LastBegin(unittest.TestCase):

    def check(self, log, value, stamp):
        self.assertEqual(last_begin(log, value), stamp)
        self.assertEqual(last_begin(value=value, log=log), stamp)

    def test_the_greatest_begin(self):
        self.check(MIXED, 30, 4)
        self.check(MIXED, 9, 1)
        self.check(MIXED, 4, -3)
        self.check(MIXED, 100, 0)
        self.check(LOG, 1, 12)
        self.check(LOG, 2, 6)

    def test_the_greatest_begin_is_of_any_operation(self):
        operations = (("write", 1, 0, 10), ("read", 1, 1, 9), ("read", 1, 3, 8))
        for log in (operations, operations[::-1], operations[1:] + operations[:1]):
            self.check(log, 1, 3)
        self.check((("write", 1, 5, 6), ("read", 1, 1, 9)), 1, 5)

    def test_0_has_one(self):
        self.check(ZERO, 0, 5)
        self.check(MIXED, 0, -7)

    def test_stamps_at_their_limits(self):
        self.check((("write", 1, -STAMP, STAMP), ("read", 1, STAMP, STAMP)), 1, STAMP)
        self.check((("write", 1, -STAMP, -STAMP),), 1, -STAMP)


class IsBefore(unittest.TestCase):

    def check(self, log, tolerance, one, other, answer):
        self.assertIs(is_before(log, tolerance, one, other), answer)
        self.assertIs(is_before(other=other, tolerance=tolerance, one=one, log=log), answer)

    def test_just_enough_and_one_less(self):
        # The first end of 1 is 4, the last begin of 2 is 6; 8 and 12 the other way.
        self.check(LOG, 0, 1, 2, True)
        self.check(LOG, 1, 1, 2, True)
        self.check(LOG, 2, 1, 2, False)
        self.check(LOG, 3, 2, 1, True)
        self.check(LOG, 4, 2, 1, False)

    def test_equal_is_not_less(self):
        log = (("write", 1, 0, 5), ("write", 2, 5, 6), ("write", 3, 6, 7))
        self.check(log, 0, 1, 2, False)
        self.check(log, 0, 1, 3, True)
        self.check(log, 1, 1, 3, False)

    def test_the_first_end_and_the_last_begin_count(self):
        log = (("write", 1, 0, 20), ("read", 1, 0, 3), ("write", 2, 0, 30), ("read", 2, 5, 30))
        self.check(log, 0, 1, 2, True)
        self.check(log, 1, 1, 2, True)
        self.check(log, 2, 1, 2, False)
        self.check(log, 0, 2, 1, False)

    def test_both_may_be_before_each_other(self):
        log = (("write", 1, 0, 1), ("read", 1, 8, 9), ("write", 2, 2, 3))
        self.check(log, 0, 1, 2, True)
        self.check(log, 0, 2, 1, True)
        self.check(log, 1, 1, 2, False)
        self.check(log, 4, 2, 1, True)
        self.check(log, 5, 2, 1, False)

    def test_a_value_is_not_before_itself(self):
        log = (("write", 1, 0, 1), ("read", 1, 50, 51), ("read", 0, 0, 1), ("read", 0, 50, 51))
        for value in (0, 1):
            self.check(log, 0, value, value, False)
            self.check(log, 10 ** 16, value, value, False)

    def test_0_is_before_all_others(self):
        low = (("read", 0, STAMP, STAMP), ("write", 1, -STAMP, -STAMP), ("write", GREATEST, -STAMP, STAMP))
        for log in (low, low[::-1]):
            for tolerance in (0, 1, 9, 10 ** 16):
                self.check(log, tolerance, 0, 1, True)
                self.check(log, tolerance, 0, GREATEST, True)

    def test_others_are_before_0_by_the_numbers(self):
        # The first end of 1 is 1, the last begin of 0 is 5.
        self.check(ZERO, 0, 1, 0, True)
        self.check(ZERO, 3, 1, 0, True)
        self.check(ZERO, 4, 1, 0, False)
        self.check(ZERO, 5, 1, 0, False)

    def test_values_without_a_write(self):
        log = LOST + (("read", 8, 4, 5),)
        self.check(log, 2, 7, 8, True)
        self.check(log, 3, 7, 8, False)
        self.check(log, 0, 8, 7, False)

    def test_stamps_and_tolerances_at_their_limits(self):
        log = (("write", 1, -STAMP, -STAMP), ("write", 2, STAMP, STAMP))
        self.check(log, 2 * STAMP - 1, 1, 2, True)
        self.check(log, 2 * STAMP, 1, 2, False)
        self.check(log, 10 ** 16, 1, 2, False)
        self.check(log, 0, 2, 1, False)

    def test_every_pair(self):
        values = values_of(MIXED)
        pairs = [(one, other) for one in values for other in values if is_before(MIXED, 0, one, other)]
        self.assertEqual(
            pairs,
            [(0, 4), (0, 9), (0, 30), (0, 100), (4, 9), (4, 30), (4, 100), (9, 30), (100, 9), (100, 30)])


class NotAValue(unittest.TestCase):

    def refuses(self, function, arguments, value):
        """Check that the very value is told, and that no other error stands behind."""
        before = copy.deepcopy(arguments)
        backwards = {name: arguments[name] for name in reversed(arguments)}
        for call in (lambda: function(**arguments), lambda: function(**backwards),
                     lambda: function(*arguments.values())):
            with self.assertRaises(CellError) as held:
                call()
            self.assertIs(held.exception.__class__, NoValue)
            self.assertIs(held.exception.value, value)
            self.assertIsNone(held.exception.__context__)
            self.assertIsNone(held.exception.__cause__)
        self.assertEqual(arguments, before)

    def refuses_one(self, log, value):
        for function in (operations_of, write_of, first_end, last_begin):
            self.refuses(function, {"log": log, "value": value}, value)

    def refuses_pair(self, log, one, other, value):
        for tolerance in (0, 3):
            self.refuses(is_before, {"log": log, "tolerance": tolerance, "one": one, "other": other}, value)

    def wrong(self):
        return odd_values() + deepest_values() + [-1, 3, 5, 10 ** 30, -10 ** 30]

    def test_any_value(self):
        # Each of these logs has 1, the last one 0 as well.
        for log in (LOG, EARLY, ZERO):
            for value in self.wrong():
                self.refuses_one(log, value)

    def test_bools_where_the_integers_would_be_right(self):
        self.refuses_one(ZERO, True)
        self.refuses_one(ZERO, False)
        self.refuses_pair(ZERO, True, 0, True)
        self.refuses_pair(ZERO, 1, False, False)
        self.refuses_pair(ZERO, False, 1, False)
        self.refuses_pair(ZERO, 0, True, True)
        self.refuses_pair(ZERO, False, False, False)

    def test_0_that_no_operation_has(self):
        for log in (LOG, EARLY, LOST, ()):
            self.refuses_one(log, 0)
            self.refuses_pair(log, 0, 0, 0)
        self.refuses_pair(LOG, 0, 1, 0)
        self.refuses_pair(LOG, 1, 0, 0)

    def test_the_empty_log_has_no_value(self):
        for value in (0, 1, None, "1"):
            self.refuses_one((), value)
            self.refuses_pair((), value, 1, value)

    def test_values_that_are_stamps_or_indexes_only(self):
        for value in (3, 12, 14):
            self.refuses_one(LOG, value)

    def test_the_first_of_one_and_other(self):
        for value in self.wrong():
            self.refuses_pair(LOG, value, 2, value)
            self.refuses_pair(LOG, 2, value, value)
            for other in (3, None, [1], True):
                self.refuses_pair(LOG, value, other, value)
                self.refuses_pair(LOG, other, value, other)

    def test_the_same_one_twice(self):
        for value in self.wrong():
            self.refuses_pair(LOG, value, value, value)


class Unchanged(unittest.TestCase):

    def test_equal_calls_return_equal_results_and_change_nothing(self):
        for log in (LOG, ZERO, EARLY, MIXED):
            before = copy.deepcopy(log)
            for value in values_of(log):
                for function in (operations_of, write_of, first_end, last_begin):
                    self.assertEqual(function(log, value), function(copy.deepcopy(log), value))
                for other in values_of(log):
                    self.assertIs(is_before(log, 1, value, other), is_before(copy.deepcopy(log), 1, value, other))
            self.assertEqual(log, before)


if __name__ == "__main__":
    unittest.main()
