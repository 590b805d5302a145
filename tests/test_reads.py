"""Sections 4 (d) and 11: the values that a further read could have returned."""

import unittest

from clockslack.errors import BadStamps, Unexplained
from clockslack.faults import faults
from clockslack.least import least_tolerance
from clockslack.operations import is_operation
from clockslack.orders import can_explain
from clockslack.reads import must_return, readable
from checks import Checked
from samples import (
    EARLY, GREATEST_TOLERANCE, LOG, LOST, STAMP, TWO, ZERO, deepest_values, odd_values, writes)
from search import orders_that_explain, readable_by_search
from small import mixed_logs, settled_logs, smallest_logs

# Stamps of further reads: short and long ones, ahead of all operations, between them and behind.
SPANS = ((-3, -3), (0, 0), (0, 9), (1, 2), (2, 2), (3, 6), (4, 4), (7, 7), (30, 31))


class Examples(Checked):

    def test_section_11(self):
        self.assertEqual(
            [readable(LOG, 2, 20, 21), readable(LOG, 2, 5, 9), must_return(LOG, 2, 20, 21), must_return(LOG, 2, 5, 9)],
            [(1,), (0, 1, 2), 1, None])


class Readable(Checked):

    def check(self, log, tolerance, begin, end, values):
        """Check what readable returns, and what must_return makes of it."""
        found = self.result(readable, log=log, tolerance=tolerance, begin=begin, end=end)
        self.assertEqual(repr(found), repr(values))
        only = self.result(must_return, log=log, tolerance=tolerance, begin=begin, end=end)
        self.assertEqual(repr(only), repr(values[0] if len(values) == 1 else None))

    def test_the_samples(self):
        self.check(LOG, 2, 20, 21, (1,))
        self.check(LOG, 2, 5, 9, (0, 1, 2))
        self.check(TWO, 0, 9, 9, (1, 2))
        self.check(TWO, 0, 0, 0, (0,))
        self.check(TWO, 0, 1, 1, (0, 1))
        self.check(ZERO, 4, 5, 9, (0, 1))
        self.check(ZERO, 4, 6, 9, (1,))
        self.check(EARLY, 3, -9, 99, (0, 1))

    def test_the_empty_log(self):
        for tolerance in (0, 1, GREATEST_TOLERANCE):
            self.check((), tolerance, 0, 0, (0,))
            self.check((), tolerance, -STAMP, STAMP, (0,))

    def test_reads_alone(self):
        self.check((("read", 0, 5, 6),) * 3, 0, 0, 0, (0,))
        self.check((("read", 0, 5, 6),) * 3, 0, 99, 99, (0,))

    def test_0_until_a_value_has_surely_come(self):
        log = (("write", 1, 3, 5),)
        self.check(log, 0, 5, 9, (0, 1))
        self.check(log, 0, 6, 9, (1,))
        self.check(log, 2, 7, 9, (0, 1))
        self.check(log, 2, 8, 9, (1,))
        # 0 is free although the write comes first in the log, or a read of 0 does.
        self.check(log + (("read", 0, 0, 1),), 0, 5, 5, (0, 1))
        self.check((("read", 0, 0, 1),) + log, 0, 6, 6, (1,))

    def test_a_value_since_its_write(self):
        log = (("write", 1, 3, 5),)
        self.check(log, 0, 1, 2, (0,))
        self.check(log, 0, 1, 3, (0, 1))
        self.check(log, 1, 1, 2, (0, 1))
        self.check(log, 1, 1, 1, (0,))

    def test_a_value_until_another_one_has_surely_come(self):
        log = (("write", 1, 0, 2), ("write", 2, 4, 6))
        self.check(log, 0, 6, 6, (1, 2))
        self.check(log, 0, 7, 7, (2,))
        self.check(log, 1, 7, 7, (1, 2))
        self.check(log, 1, 8, 8, (2,))
        self.check(log, 0, 3, 3, (1,))
        self.check(log, 0, 2, 4, (0, 1, 2))

    def test_a_read_ends_a_value_too(self):
        log = (("write", 1, 0, 9), ("read", 1, 2, 3), ("write", 2, 0, 9), ("read", 2, 5, 6))
        self.check(log, 0, 1, 7, (0, 1, 2))
        self.check(log, 0, 4, 4, (1, 2))
        self.check(log, 0, 7, 7, (2,))
        self.check(log, 0, 1, 1, (0, 1))

    def test_operations_longer_than_the_further_read(self):
        # The further read makes its value begin later and end earlier, or neither.
        log = (("write", 1, 0, 20), ("write", 2, 5, 6), ("write", 3, 0, 20))
        self.check(log, 0, 8, 9, (1, 2, 3))
        self.check(log, 0, 1, 2, (0, 1, 3))
        self.check(log, 0, 3, 7, (0, 1, 2, 3))

    def test_written_values_ascending(self):
        log = (("write", 10 ** 9, 0, 9), ("write", 3, 0, 9), ("write", 7, 0, 9), ("read", 3, 5, 9), ("read", 0, 0, 9))
        self.check(log, 0, 0, 9, (0, 3, 7, 10 ** 9))
        self.check(log, 0, 10, 10, (3, 7, 10 ** 9))

    def test_full_logs(self):
        # The log with the further read would have 201 operations.
        self.check(writes(200), 0, 99, 99, (99, 100))
        self.check(writes(200), 0, 98, 99, (98, 99, 100))
        self.check(writes(200), 0, 500, 501, (200,))
        self.check(writes(200), 0, -9, -1, (0,))
        self.check(writes(200), 199, 99, 99, tuple(range(201)))
        self.check(writes(200), GREATEST_TOLERANCE, 0, 0, tuple(range(201)))
        self.check((("write", 7, 0, 0),) + LOST * 199, 0, 5, 5, (7,))
        self.check((("write", 7, 0, 0),) + LOST * 199, 0, -1, 0, (0, 7))
        self.check((("read", 0, 5, 6),) * 200, 0, 9, 9, (0,))

    def test_stamps_at_their_limits(self):
        log = (("write", 1, -STAMP, -STAMP), ("write", 2, STAMP, STAMP))
        self.check(log, 0, -STAMP, STAMP, (0, 1, 2))
        self.check(log, 0, STAMP, STAMP, (1, 2))
        self.check(log, 0, -STAMP, -STAMP, (0, 1))
        self.check(log, 2 * STAMP - 1, STAMP, STAMP, (1, 2))
        self.check(log, 2 * STAMP, STAMP, STAMP, (0, 1, 2))
        self.check(log, 2 * STAMP, -STAMP, -STAMP, (0, 1, 2))
        self.check(log, GREATEST_TOLERANCE, 0, 0, (0, 1, 2))

    def test_the_search_through_all_orders(self):
        logs = [(log, 0) for log in list(smallest_logs())[::3]]
        logs += [(log, 0) for log in mixed_logs(61, 250, 5)] + [(log, 4) for log in mixed_logs(62, 120, 5)]
        logs += [(log, tolerance) for log in settled_logs(63, 120, 5) for tolerance in (0, 1, 3)]
        count = 0
        for number, (log, tolerance) in enumerate(logs):
            if not orders_that_explain(log, tolerance):
                continue
            for begin, end in (SPANS[number % len(SPANS)], SPANS[(number + 4) % len(SPANS)]):
                expected = tuple(readable_by_search(log, tolerance, begin, end))
                self.assertEqual(readable(log, tolerance, begin, end), expected, (log, tolerance, begin, end))
                self.assertEqual(must_return(log, tolerance, begin, end),
                                 expected[0] if len(expected) == 1 else None)
                self.assertGreater(len(expected), 0)
                count += 1
        self.assertGreater(count, 500)

    def test_longer_logs(self):
        for log in settled_logs(64, 60, 40):
            least = least_tolerance(log)
            possible = [0] + sorted(operation[1] for operation in log if operation[0] == "write")
            for tolerance in (least, least + 2):
                for begin, end in ((-2, 0), (10, 13), (20, 20), (5, 60), (99, 99)):
                    expected = tuple(value for value in possible
                                     if can_explain(log + (("read", value, begin, end),), tolerance))
                    self.assertEqual(readable(log, tolerance, begin, end), expected)


class Errors(Checked):

    def both(self, error, told, **arguments):
        for function in (readable, must_return):
            self.raises(error, told, function, **arguments)

    def bad(self, begin, end, log=LOG, tolerance=2):
        self.both(BadStamps, {"begin": begin, "end": end}, log=log, tolerance=tolerance, begin=begin, end=end)

    def test_stamps_beyond_their_limits(self):
        for stamp in (STAMP + 1, 10 ** 16, 10 ** 30):
            self.bad(0, stamp)
            self.bad(stamp, stamp)
            self.bad(-stamp, 0)
            self.bad(-stamp, -stamp)
            self.bad(-stamp, stamp)

    def test_exchanged_stamps(self):
        for begin, end in ((1, 0), (STAMP, -STAMP), (0, -1), (9, 5)):
            self.bad(begin, end)
            self.assertEqual(readable(LOG, GREATEST_TOLERANCE, end, begin), (0, 1, 2))

    def test_any_value(self):
        for value in odd_values() + deepest_values():
            self.bad(value, 5)
            self.bad(5, value)
            self.bad(value, value)

    def test_bools_are_no_stamps(self):
        self.assertEqual([readable(LOG, 2, 0, 1), readable(LOG, 2, 1, 1)], [(0,), (0,)])
        for begin, end in ((False, 1), (0, True), (False, True), (True, True)):
            self.bad(begin, end)

    def test_in_other_logs(self):
        for log, tolerance in (((), 0), (ZERO, 4), (writes(200), 0), (TWO, GREATEST_TOLERANCE)):
            self.bad(1, 0, log, tolerance)
            self.bad(None, 0, log, tolerance)

    def test_the_very_values_are_told(self):
        begin, end = [1], {"end": 2}
        with self.assertRaises(BadStamps) as held:
            readable(LOG, 2, begin, end)
        self.assertIs(held.exception.begin, begin)
        self.assertIs(held.exception.end, end)

    def test_unexplained_with_the_first_fault(self):
        for log, tolerance in ((LOG, 1), (ZERO, 3), (EARLY, 2), (LOST, 0), (LOST, GREATEST_TOLERANCE),
                               (EARLY + LOST, 0), (LOST + LOG, 0), (LOST * 200, 5)):
            fault = next(iter(faults(log, tolerance)))
            self.both(Unexplained, {"fault": fault}, log=log, tolerance=tolerance, begin=0, end=1)

    def test_unexplained_ahead_of_bad_stamps(self):
        fault = ("crossed", 1, 2, 2, 3)
        for begin, end in ((1, 0), (None, []), (True, True), (0, STAMP + 1)):
            self.assertFalse(is_operation(("read", 0, begin, end)))
            self.both(Unexplained, {"fault": fault}, log=LOG, tolerance=1, begin=begin, end=end)
            self.bad(begin, end)


if __name__ == "__main__":
    unittest.main()
