"""Sections 4 (e) and 13: which tolerance how many values set aside spare."""

import unittest

from clockslack.aside import fewest_aside
from clockslack.least import least_tolerance
from clockslack.trades import tolerance_without, trade
from checks import Checked
from samples import EARLY, LOG, LOST, STAMP, TWO, ZERO, writes
from search import least_of, left_of, leasts_without, values_in
from small import mixed_logs, settled_logs, smallest_logs

# 1 and 2 are read early, by 3 and by 8; 3 and 4 are before each other, by 5.
SEVERAL = (
    ("read", 1, 0, 2), ("write", 1, 5, 5), ("read", 2, 100, 102), ("write", 2, 110, 110),
    ("write", 3, 200, 200), ("write", 4, 201, 201), ("read", 3, 206, 206), ("read", 4, 206, 206))


def least_by_search(log, pairs, count):
    """Return the least of the least tolerances of the sets with at most so many values."""
    return min([least for values, least in pairs if len(values) <= count and least is not None], default=None)


class Examples(Checked):

    def test_section_13(self):
        self.assertEqual(
            [trade(LOG), tolerance_without(LOG, 0), tolerance_without(LOST, 0), trade(LOST + EARLY), trade(())],
            [((0, 2), (1, 0)), 2, None, ((1, 3), (2, 0)), ((0, 0),)])


class Trades(Checked):

    def check(self, log, pairs):
        """Check what trade returns, and tolerance_without for each count from 0 to beyond all of these."""
        self.assertEqual(repr(self.result(trade, log=log)), repr(pairs))
        told = dict(pairs)
        last = pairs[-1][0]
        for count in range(last + 3) if last < 20 else (0, 1, 50, last - 1, last, last + 1):
            expected = told.get(count, None if count < pairs[0][0] else 0)
            self.assertEqual(repr(self.result(tolerance_without, log=log, count=count)), repr(expected))
        for count in (200, 201, 10 ** 30):
            self.assertEqual(repr(self.result(tolerance_without, log=log, count=count)), "0")

    def check_by_search(self, log, least):
        """Check both functions by the sets of values, whose rests have the least tolerances that least tells."""
        pairs = leasts_without(log, least)
        expected = []
        for count in range(len(values_in(log)) + 2):
            tolerance = least_by_search(log, pairs, count)
            self.assertEqual(tolerance_without(log, count), tolerance, (log, count))
            if tolerance is not None and (not expected or expected[-1][1] > 0):
                expected.append((count, tolerance))
        self.assertEqual(trade(log), tuple(expected), log)

    def test_the_samples(self):
        self.check(LOG, ((0, 2), (1, 0)))
        self.check(ZERO, ((0, 4), (1, 0)))
        self.check(EARLY, ((0, 3), (1, 0)))
        self.check(TWO, ((0, 0),))

    def test_the_empty_log(self):
        self.check((), ((0, 0),))

    def test_what_can_be_explained(self):
        for log in (LOG[:3], writes(200), (("read", 0, 0, 1),) * 200):
            self.check(log, ((0, 0),))

    def test_values_that_nothing_writes(self):
        self.check(LOST, ((1, 0),))
        self.check(LOST * 200, ((1, 0),))
        self.check(LOST + (("read", 9, 0, 1), ("read", 7, 0, 1), ("read", 8, 0, 1)), ((3, 0),))
        self.check(LOST + EARLY, ((1, 3), (2, 0)))
        self.check(LOST + LOG + (("read", 9, 4, 5),), ((2, 2), (3, 0)))

    def test_several_values(self):
        self.check(SEVERAL, ((0, 8), (1, 5), (2, 3), (3, 0)))
        self.check(SEVERAL[:4], ((0, 8), (1, 3), (2, 0)))
        self.check(SEVERAL[4:], ((0, 5), (1, 0)))

    def test_equal_tolerances_for_several_counts(self):
        log = (("read", 1, 0, 0), ("write", 1, 4, 4), ("read", 2, 0, 0), ("write", 2, 4, 4), ("read", 3, 0, 0),
               ("write", 3, 4, 4))
        self.check(log, ((0, 4), (1, 4), (2, 4), (3, 0)))

    def test_a_wide_value_and_the_narrow_ones_within(self):
        # Within 8 all can be explained, without 1 within 0; without 2, 3 or both nothing is better but by one value.
        log = (("write", 1, 0, 0), ("read", 1, 20, 20), ("write", 2, 10, 12), ("write", 3, 10, 12))
        self.check(log, ((0, 8), (1, 0)))

    def test_stamps_at_their_limits(self):
        log = (("write", 1, -STAMP, -STAMP), ("read", 0, STAMP, STAMP))
        self.check(log, ((0, 2 * STAMP), (1, 0)))
        log = (("read", 1, -STAMP, -STAMP), ("write", 1, STAMP, STAMP), ("read", 2, 0, 0), ("write", 2, 1, 1))
        self.check(log, ((0, 2 * STAMP), (1, 1), (2, 0)))

    def test_full_logs(self):
        early = (tuple(("read", number, 0, 0) for number in range(1, 101))
                 + tuple(("write", number, number, number) for number in range(1, 101)))
        self.check(early, tuple((count, 100 - count) for count in range(101)))
        crossed = (tuple(("write", number, 0, 0) for number in range(1, 101))
                   + tuple(("read", number, 900 - number, 900) for number in range(1, 101)))
        # The last one is kept by itself; with the others the earliest last begin decides.
        self.check(crossed, tuple((count, 898 - count) for count in range(99)) + ((99, 0),))

    def test_the_look_over_all_sets_of_values_by_all_orders(self):
        for log in list(smallest_logs())[::4] + list(mixed_logs(91, 200, 5)) + list(settled_logs(92, 60, 5)):
            self.check_by_search(log, least_of)

    def test_the_look_over_all_sets_of_values(self):
        for log in list(mixed_logs(93, 120, 16)) + list(settled_logs(94, 40, 14)):
            if len(values_in(log)) <= 7:
                self.check_by_search(log, least_tolerance)

    def test_longer_logs(self):
        for log in list(mixed_logs(95, 30, 60)) + list(settled_logs(96, 30, 60)):
            pairs = trade(log)
            self.assertEqual([count for count, _ in pairs], list(range(pairs[0][0], pairs[-1][0] + 1)))
            self.assertEqual(pairs[-1][1], 0)
            for count, tolerance in pairs:
                self.assertLessEqual(fewest_aside(log, tolerance), count)
                if tolerance > 0:
                    self.assertGreater(fewest_aside(log, tolerance - 1), count)

    def test_without_the_values_of_an_unwritten_fault_nothing_is_set_aside(self):
        for log in mixed_logs(97, 120, 8):
            written = [operation[1] for operation in log if operation[0] == "write"]
            lost = [value for value in values_in(log) if value != 0 and value not in written]
            self.assertEqual(trade(log)[0], (len(lost), least_tolerance(left_of(log, lost))))


if __name__ == "__main__":
    unittest.main()
