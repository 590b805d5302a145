"""Sections 2, 3 (points 1 to 3) and 5: operations, logs, tolerances."""

import copy
import unittest

from clockslack.errors import CellError, NoIndex
from clockslack.operations import is_log, is_operation, is_tolerance, surely_before
from samples import EARLY, LOG, LOST, ZERO, deepest_values, odd_values, writes

STAMP = 10 ** 15
VALUE = 10 ** 9
TOLERANCE = 10 ** 16


class Examples(unittest.TestCase):

    def test_section_5(self):
        self.assertEqual(
            [is_operation(("write", 0, 1, 2)), is_operation(("read", 0, 1, 1)),
             is_log((("write", 1, 0, 1),) * 2),
             surely_before(LOG, 1, 1, 2), surely_before(LOG, 2, 1, 2)],
            [False, True, False, True, False])


class Predicate(unittest.TestCase):
    """Checks that also look at the kind of the answer: True or False itself."""

    def accepts(self, function, value):
        self.assertIs(function(value), True, value)
        self.assertIs(function(value=value), True, value)

    def refuses(self, function, value):
        before = copy.deepcopy(value)
        self.assertIs(function(value), False, value)
        self.assertIs(function(value=value), False, value)
        self.assertEqual(value, before)


class Operation(Predicate):

    def test_ordinary_ones(self):
        for log in (LOG, ZERO, EARLY, LOST):
            for operation in log:
                self.accepts(is_operation, operation)

    def test_kinds(self):
        for kind in ("", "w", "writ", "writes", "Write", "READ", "write ", " read", "wr", "delete",
                     "write read", "write\n"):
            self.refuses(is_operation, (kind, 1, 0, 1))

    def test_values_of_a_write(self):
        for value in (1, 2, VALUE - 1, VALUE):
            self.accepts(is_operation, ("write", value, 0, 1))
        for value in (0, -1, -VALUE, VALUE + 1, 10 ** 30, -10 ** 30):
            self.refuses(is_operation, ("write", value, 0, 1))

    def test_values_of_a_read(self):
        for value in (0, 1, 2, VALUE - 1, VALUE):
            self.accepts(is_operation, ("read", value, 0, 1))
        for value in (-1, -VALUE, VALUE + 1, 10 ** 30, -10 ** 30):
            self.refuses(is_operation, ("read", value, 0, 1))

    def test_stamps_up_to_their_limits(self):
        for begin, end in ((-STAMP, STAMP), (-STAMP, -STAMP), (STAMP, STAMP), (-STAMP, 0), (0, STAMP)):
            self.accepts(is_operation, ("write", 1, begin, end))
            self.accepts(is_operation, ("read", 1, begin, end))

    def test_stamps_beyond_their_limits(self):
        for begin, end in ((-STAMP - 1, 0), (-STAMP - 1, -STAMP), (-STAMP - 1, -STAMP - 1),
                           (0, STAMP + 1), (STAMP, STAMP + 1), (STAMP + 1, STAMP + 1),
                           (-10 ** 30, 10 ** 30), (-10 ** 30, 0), (0, 10 ** 30)):
            self.refuses(is_operation, ("write", 1, begin, end))
            self.refuses(is_operation, ("read", 1, begin, end))

    def test_begin_is_at_most_end(self):
        for stamp in (-STAMP, -1, 0, 1, STAMP):
            self.accepts(is_operation, ("read", 1, stamp, stamp))
        for begin, end in ((1, 0), (0, -1), (6, 5), (STAMP, -STAMP), (STAMP, STAMP - 1)):
            self.refuses(is_operation, ("read", 1, begin, end))
            self.refuses(is_operation, ("write", 1, begin, end))

    def test_too_short_and_too_long(self):
        whole = ("write", 1, 0, 1)
        for count in range(4):
            self.refuses(is_operation, whole[:count])
            self.refuses(is_operation, whole[count + 1:])
        self.refuses(is_operation, whole + (1,))
        self.refuses(is_operation, whole + whole)
        self.refuses(is_operation, ("write", 1, 0, 1, None))

    def test_a_list_is_no_operation(self):
        self.refuses(is_operation, ["write", 1, 0, 1])
        self.refuses(is_operation, {"write": 1, 0: 1})
        self.refuses(is_operation, dict(enumerate(("write", 1, 0, 1))))

    def test_any_value_alone(self):
        for value in odd_values() + deepest_values() + [0, 1, 10 ** 30]:
            if value != ("write", 1, 0, 1):
                self.refuses(is_operation, value)

    def test_any_value_in_each_place(self):
        for kind in ("write", "read"):
            whole = (kind, 1, 1, 1)
            for place in range(4):
                for value in odd_values():
                    changed = whole[:place] + (value,) + whole[place + 1:]
                    # The only values of these that fit are the two kinds.
                    if place > 0 or value not in ("write", "read"):
                        self.refuses(is_operation, changed)
        for value in (0, 1, ["write"], ("write",), {"write": 1}):
            self.refuses(is_operation, (value, 1, 0, 1))

    def test_bools_are_no_integers(self):
        for operation in (("write", True, 0, 1), ("read", True, 0, 1), ("read", False, 0, 1),
                          ("read", 1, False, 1), ("read", 1, True, 1), ("read", 1, 0, True),
                          ("read", 1, 0, False), ("write", True, False, True)):
            self.refuses(is_operation, operation)


class Log(Predicate):

    def test_ordinary_ones(self):
        for log in (LOG, ZERO, EARLY, LOST, EARLY + LOST, LOG[:3], ()):
            self.accepts(is_log, log)

    def test_how_many_operations(self):
        for count in (1, 199, 200):
            self.accepts(is_log, writes(count))
            self.accepts(is_log, LOST * count)
        for count in (201, 202, 400):
            self.refuses(is_log, writes(count))
            self.refuses(is_log, LOST * count)

    def test_two_writes_of_one_value(self):
        one, other = ("write", 1, 0, 1), ("write", 1, 5, 6)
        between = ("write", 2, 0, 1)
        for log in ((one, one), (one, other), (other, one), (one, between, other),
                    (one, ("read", 1, 0, 1), one), LOG + (one,), (one,) + LOG):
            self.refuses(is_log, log)
        self.refuses(is_log, writes(199) + (("write", 1, 0, 0),))
        self.refuses(is_log, writes(199) + (("write", 199, 0, 0),))

    def test_a_value_may_be_read_often_and_written_once(self):
        read, write = ("read", 1, 0, 1), ("write", 1, 0, 1)
        for log in ((read, read), (read, write), (write, read), (read, write, read), (("read", 0, 0, 1),) * 3):
            self.accepts(is_log, log)

    def test_equal_stamps_are_no_matter(self):
        self.accepts(is_log, (("write", 1, 0, 0), ("write", 2, 0, 0), ("write", 3, 0, 0)))

    def test_each_operation_counts(self):
        wrong = (("write", 0, 0, 1), ("read", 1, 1, 0), ("read", True, 0, 1), ("read", 1, 0),
                 ["read", 1, 0, 1], ("read", 1, 0, 1, 1))
        for operation in wrong:
            for place in range(len(LOG) + 1):
                self.refuses(is_log, LOG[:place] + (operation,) + LOG[place:])

    def test_a_list_is_no_log(self):
        self.refuses(is_log, [])
        self.refuses(is_log, list(LOG))
        self.refuses(is_log, {})
        self.refuses(is_log, {LOG[0]: 1})
        self.refuses(is_log, dict(enumerate(LOG)))
        self.refuses(is_log, tuple(list(operation) for operation in LOG))

    def test_an_operation_is_no_log(self):
        for operation in LOG:
            self.refuses(is_log, operation)

    def test_any_value_alone(self):
        for value in odd_values() + deepest_values() + [0, 1, 10 ** 30]:
            if value not in ((), (("write", 1, 0, 1),)):
                self.refuses(is_log, value)

    def test_any_value_among_operations(self):
        for value in odd_values() + [0, 1, LOG, list(LOG)]:
            if value != ("write", 1, 0, 1):
                self.refuses(is_log, ZERO + (value,))
                self.refuses(is_log, (value,) + ZERO)


class Tolerance(Predicate):

    def test_from_least_to_greatest(self):
        for tolerance in (0, 1, 2, 10 ** 15, TOLERANCE - 1, TOLERANCE):
            self.accepts(is_tolerance, tolerance)

    def test_beyond(self):
        for tolerance in (-1, -2, -TOLERANCE, TOLERANCE + 1, 10 ** 30, -10 ** 30):
            self.refuses(is_tolerance, tolerance)

    def test_any_value(self):
        for value in odd_values() + deepest_values():
            self.refuses(is_tolerance, value)


class SurelyBefore(unittest.TestCase):

    def holds(self, log, tolerance, one, other):
        found = surely_before(log, tolerance, one, other)
        self.assertIs(surely_before(other=other, one=one, tolerance=tolerance, log=log), found)
        self.assertIn(found, (True, False))
        self.assertIsInstance(found, bool)
        return found

    def test_just_enough_and_one_less(self):
        # 4 is the end of the first one, 6 the begin of the second one.
        self.assertIs(self.holds(LOG, 0, 1, 2), True)
        self.assertIs(self.holds(LOG, 1, 1, 2), True)
        self.assertIs(self.holds(LOG, 2, 1, 2), False)
        self.assertIs(self.holds(LOG, 3, 1, 2), False)

    def test_end_equal_to_begin(self):
        log = (("write", 1, 0, 5), ("write", 2, 5, 6), ("write", 3, 6, 7))
        self.assertIs(self.holds(log, 0, 0, 1), False)
        self.assertIs(self.holds(log, 0, 0, 2), True)
        self.assertIs(self.holds(log, 1, 0, 2), False)

    def test_every_pair(self):
        pairs = [(one, other) for one in range(4) for other in range(4) if self.holds(LOG, 0, one, other)]
        self.assertEqual(pairs, [(0, 3), (1, 2), (1, 3), (2, 3)])
        pairs = [(one, other) for one in range(4) for other in range(4) if self.holds(LOG, 3, one, other)]
        self.assertEqual(pairs, [(1, 3), (2, 3)])

    def test_kinds_and_values_are_no_matter(self):
        log = (("read", 0, 8, 9), ("read", 7, 0, 1), ("read", 7, 5, 6))
        self.assertIs(self.holds(log, 0, 1, 0), True)
        self.assertIs(self.holds(log, 0, 1, 2), True)
        self.assertIs(self.holds(log, 0, 0, 1), False)

    def test_none_is_before_itself(self):
        for index in range(4):
            self.assertIs(self.holds(LOG, 0, index, index), False)

    def test_stamps_and_tolerances_at_their_limits(self):
        log = (("write", 1, -STAMP, -STAMP), ("write", 2, STAMP, STAMP))
        self.assertIs(self.holds(log, 2 * STAMP - 1, 0, 1), True)
        self.assertIs(self.holds(log, 2 * STAMP, 0, 1), False)
        self.assertIs(self.holds(log, TOLERANCE, 0, 1), False)
        self.assertIs(self.holds(log, 0, 1, 0), False)

    def test_the_last_index_of_a_full_log(self):
        log = writes(200)
        self.assertIs(self.holds(log, 198, 0, 199), True)
        self.assertIs(self.holds(log, 199, 0, 199), False)
        with self.assertRaises(NoIndex) as held:
            surely_before(log, 0, 0, 200)
        self.assertEqual(held.exception.index, 200)


class NotAnIndex(unittest.TestCase):

    def refuses(self, log, one, other, index):
        """Check that the very value is told, and that no other error stands behind."""
        before = copy.deepcopy((one, other))
        for arguments in ({"log": log, "tolerance": 0, "one": one, "other": other},
                          {"other": other, "one": one, "tolerance": 0, "log": log}):
            with self.assertRaises(CellError) as held:
                surely_before(**arguments)
            self.assertIs(held.exception.__class__, NoIndex)
            self.assertIs(held.exception.index, index)
            self.assertIsNone(held.exception.__context__)
            self.assertIsNone(held.exception.__cause__)
        with self.assertRaises(NoIndex) as held:
            surely_before(log, 0, one, other)
        self.assertIs(held.exception.index, index)
        self.assertEqual((one, other), before)

    def wrong(self):
        return odd_values() + deepest_values() + [-1, -4, -5, 4, 5, 10 ** 30, -10 ** 30]

    def test_the_first_one(self):
        for value in self.wrong():
            self.refuses(LOG, value, 2, value)

    def test_the_second_one(self):
        for value in self.wrong():
            self.refuses(LOG, 2, value, value)

    def test_both(self):
        for value in self.wrong():
            for other in (4, [1], None):
                self.refuses(LOG, value, other, value)
                self.refuses(LOG, other, value, other)
        self.refuses(LOG, 4, -1, 4)
        self.refuses(LOG, -1, 4, -1)
        self.refuses(LOG, True, None, True)
        self.refuses(LOG, None, True, None)

    def test_the_same_one_twice(self):
        for value in self.wrong():
            self.refuses(LOG, value, value, value)

    def test_the_empty_log_has_no_index(self):
        for index in (0, 1, -1, None, False):
            self.refuses((), index, 0, index)
            self.refuses((), index, index, index)


if __name__ == "__main__":
    unittest.main()
