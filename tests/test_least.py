"""Sections 3 (point 8), 4 (b) and 9: the least tolerance and evidence of it."""

import unittest

from clockslack.errors import Unexplained
from clockslack.faults import bound_of, faults, shows_fault
from clockslack.least import evidence, least_tolerance, shows_least, tight
from clockslack.orders import can_explain, moments, order_for, shows_moments
from checks import Checked
from samples import EARLY, GREATEST_TOLERANCE, LOG, LOST, STAMP, TWO, ZERO, deepest_values, odd_values, writes
from search import all_faults, least_of
from small import mixed_logs, settled_logs, smallest_logs

# 4 is the bound of the faults of 1 and 2 and of 0 and 5, and the greatest one.
EVEN = (
    ("write", 1, 0, 1), ("read", 1, 9, 9), ("write", 2, 5, 5),
    ("write", 5, -10, -9), ("read", 0, -5, -5), ("read", 4, 12, 12), ("write", 4, 15, 16), ("read", 4, 11, 11))


class Examples(Checked):

    def test_section_9_least(self):
        self.assertEqual(
            [least_tolerance(LOG), least_tolerance(ZERO), least_tolerance(EARLY), least_tolerance(()),
             least_tolerance(LOST), tight(LOG)],
            [2, 4, 3, 0, None, (("crossed", 1, 2, 2, 3),)])

    def test_section_9_evidence(self):
        self.assertEqual(
            [shows_least(LOG, 2, evidence(LOG)), evidence(()), shows_least(LOG, 3, evidence(LOG))],
            [True, ((), None), False])


class LeastTolerance(Checked):

    def check(self, log, least):
        found = self.result(least_tolerance, log=log)
        self.assertEqual(repr(found), repr(least), log)

    def test_each_kind_of_fault(self):
        self.check(EARLY, 3)
        self.check(LOG, 2)
        self.check(ZERO, 4)
        self.check(LOST, None)

    def test_0(self):
        for log in ((), TWO, LOG[:3], writes(200), tuple(reversed(writes(200))), (("read", 0, 0, 1),) * 200):
            self.check(log, 0)
        # Stamps that just touch.
        self.check((("read", 1, 0, 5), ("write", 1, 5, 6)), 0)
        self.check((("write", 1, 0, 5), ("read", 0, 5, 6)), 0)

    def test_1(self):
        self.check((("read", 1, 0, 5), ("write", 1, 6, 6)), 1)
        self.check((("write", 1, 0, 5), ("read", 0, 6, 6)), 1)

    def test_the_greatest_of_several(self):
        self.check(EVEN, 4)
        self.check(EARLY + (("write", 2, 0, 1), ("read", 0, 5, 6)), 4)
        self.check(EARLY + (("write", 2, 0, 1), ("read", 0, 3, 6)), 3)
        self.check(EARLY + (("read", 1, 0, 0),), 5)

    def test_unwritten_with_others(self):
        for log in (LOST + EARLY, LOG + LOST, LOST * 200):
            self.check(log, None)

    def test_stamps_at_their_limits(self):
        self.check((("write", 1, -STAMP, -STAMP), ("read", 0, STAMP, STAMP)), 2 * STAMP)
        self.check((("read", 1, -STAMP, -STAMP), ("write", 1, STAMP, STAMP)), 2 * STAMP)
        self.check((("write", 1, -STAMP, STAMP), ("read", 0, STAMP, STAMP)), 0)

    def test_full_logs(self):
        self.check((("write", 7, 5, 6),) + LOST * 199, 4)
        crossed = tuple((kind, value, stamp, stamp)
                        for kind, stamp in (("write", 0), ("read", 9)) for value in range(1, 101))
        self.check(crossed, 9)

    def test_the_search_through_all_orders(self):
        for log in list(smallest_logs()) + list(mixed_logs(41, 600, 6)) + list(settled_logs(42, 300, 6)):
            self.assertEqual(least_tolerance(log), least_of(log), log)

    def test_the_greatest_one_of_0_and_all_bounds(self):
        for log in mixed_logs(43, 100, 5):
            bounds = [bound_of(log, fault) for fault in all_faults(log, 0)]
            self.assertEqual(least_tolerance(log), None if None in bounds else max([0] + bounds), log)

    def test_it_can_be_explained_and_within_one_less_it_cannot(self):
        for log in list(mixed_logs(44, 200, 30)) + list(settled_logs(45, 200, 60)):
            least = least_tolerance(log)
            if least is None:
                self.assertFalse(can_explain(log, GREATEST_TOLERANCE))
            else:
                self.assertTrue(can_explain(log, least), log)
                self.assertFalse(least > 0 and can_explain(log, least - 1), log)


class Tight(Checked):

    def check(self, log, found):
        self.assertEqual(repr(self.result(tight, log=log)), repr(found))

    def test_each_kind_of_fault(self):
        self.check(EARLY, (("early", 0, 1),))
        self.check(LOG, (("crossed", 1, 2, 2, 3),))
        self.check(ZERO, (("late", 0, 1),))

    def test_several_in_the_same_order_and_no_others(self):
        self.assertEqual([bound_of(EVEN, fault) for fault in faults(EVEN, 0)], [3, 4, 4, 4])
        self.check(EVEN, (("early", 7, 6), ("late", 3, 4), ("crossed", 0, 2, 2, 1)))

    def test_none_if_the_least_tolerance_is_0_or_none(self):
        for log in ((), TWO, LOG[:3], writes(200), LOST, LOST + EARLY, LOST * 200, LOG + LOST):
            self.check(log, ())

    def test_full_logs(self):
        self.check((("write", 7, 5, 6),) + LOST * 199, tuple(("early", index, 0) for index in range(1, 200)))

    def test_those_that_faults_gives_with_this_bound(self):
        for log in list(smallest_logs()) + list(mixed_logs(46, 300, 8)):
            least = least_of(log) if len(log) < 6 else least_tolerance(log)
            expected = [fault for fault in faults(log, 0) if least and bound_of(log, fault) == least]
            self.assertEqual(tight(log), tuple(expected), log)


class Evidence(Checked):

    def check(self, log):
        least = least_tolerance(log)
        found = self.result(evidence, log=log)
        self.assertIs(found.__class__, tuple)
        shown, fault = found
        self.assertIs(shows_moments(log, least, shown), True, log)
        if least == 0:
            self.assertIsNone(fault)
        else:
            self.assertIs(shows_fault(log, 0, fault), True, log)
            self.assertEqual(bound_of(log, fault), least)
        self.assertIs(shows_least(log, least, found), True, log)
        for other in (0, least - 1, least + 1, 2 * least + 2, GREATEST_TOLERANCE):
            if other != least and other >= 0:
                self.assertIs(shows_least(log, other, found), False, (log, other))

    def test_the_samples(self):
        for log in (LOG, ZERO, EARLY, TWO, EVEN, (), LOG[:3]):
            self.check(log)

    def test_the_empty_log(self):
        self.assertEqual(evidence(()), ((), None))

    def test_stamps_at_their_limits(self):
        self.check((("write", 1, -STAMP, -STAMP), ("read", 0, STAMP, STAMP)))
        self.check((("read", 1, -STAMP, -STAMP), ("write", 1, STAMP, STAMP)))

    def test_full_logs(self):
        self.check(writes(200))
        self.check((("write", 7, 5, 6),) + LOST * 199)
        self.check((("read", 0, 0, 1),) * 200)

    def test_small_and_longer_logs(self):
        for log in list(smallest_logs()) + list(mixed_logs(47, 200, 12)) + list(settled_logs(48, 100, 30)):
            if least_tolerance(log) is not None:
                self.check(log)

    def test_unexplained_with_the_first_fault(self):
        for log, fault in ((LOST, ("unwritten", 0)), (EARLY + LOST, ("unwritten", 2)), (LOST + EARLY, ("unwritten", 0)),
                           (LOG + (("read", 9, 0, 0),) + LOST, ("unwritten", 4)), (LOST * 200, ("unwritten", 0))):
            self.raises(Unexplained, {"fault": fault}, evidence, log=log)


class ShowsLeast(Checked):

    def accept(self, log, tolerance, value):
        self.accepts(shows_least, log=log, tolerance=tolerance, value=value)

    def refuse(self, log, tolerance, value):
        self.refuses(shows_least, log=log, tolerance=tolerance, value=value)

    def moments_for(self, log, tolerance):
        return moments(log, tolerance, order_for(log, tolerance))

    def test_moments_and_a_fault(self):
        shown = self.moments_for(LOG, 2)
        for fault in (("crossed", 1, 2, 2, 3), ("crossed", 2, 3, 1, 2)):
            self.accept(LOG, 2, (shown, fault))
        for fault in (None, ("crossed", 0, 2, 2, 3), ("late", 0, 1), ("unwritten", 0), (), 0, False, True):
            self.refuse(LOG, 2, (shown, fault))

    def test_a_fault_that_faults_does_not_give(self):
        log = EARLY + (("read", 1, -2, -1), ("read", 1, -2, -1))
        shown = self.moments_for(log, 6)
        self.assertEqual(tight(log), (("early", 2, 1), ("early", 3, 1)))
        self.accept(log, 6, (shown, ("early", 3, 1)))
        # Its bound is 3: within 5 it is none.
        self.refuse(log, 6, (shown, ("early", 0, 1)))

    def test_only_the_least_tolerance(self):
        for tolerance in (0, 1, 3, 4, 8, GREATEST_TOLERANCE):
            for fault in (None, ("crossed", 1, 2, 2, 3), ("crossed", 2, 3, 1, 2)):
                if tolerance > 2:
                    self.refuse(LOG, tolerance, (self.moments_for(LOG, tolerance), fault))
                self.refuse(LOG, tolerance, (self.moments_for(LOG, 2), fault))

    def test_moments_for_another_tolerance(self):
        fault = ("crossed", 1, 2, 2, 3)
        self.refuse(LOG, 2, (((2, 9), (0, 10), (1, 10), (3, 22)), fault))
        self.refuse(LOG, 2, (((0, 0), (1, 4), (2, 12), (3, 24)), fault))
        self.refuse(LOG, 2, (((0, 0), (1, 2), (3, 20), (2, 20)), fault))
        self.refuse(LOG, 2, ((2, 0, 1, 3), fault))

    def test_the_tolerance_0(self):
        shown = self.moments_for(TWO, 0)
        self.accept(TWO, 0, (shown, None))
        self.accept((), 0, ((), None))
        for fault in (("late", 0, 2), ("unwritten", 0), (), 0, False, "", "none", []):
            self.refuse(TWO, 0, (shown, fault))
            self.refuse((), 0, ((), fault))

    def test_none_for_another_tolerance_than_0(self):
        self.refuse(TWO, 1, (self.moments_for(TWO, 1), None))
        self.refuse((), 1, ((), None))
        self.refuse((), GREATEST_TOLERANCE, ((), None))

    def test_the_tolerance_1(self):
        log = (("read", 1, 0, 5), ("write", 1, 6, 6))
        self.accept(log, 1, (((1, 11), (0, 11)), ("early", 0, 1)))
        self.refuse(log, 1, (((1, 11), (0, 11)), None))
        self.refuse(log, 0, (((1, 11), (0, 11)), ("early", 0, 1)))

    def test_values_without_a_write(self):
        for tolerance in (0, 1, GREATEST_TOLERANCE):
            for fault in (("unwritten", 0), None):
                self.refuse(LOST, tolerance, (((0, 1),), fault))

    def test_stamps_at_their_limits(self):
        log = (("write", 1, -STAMP, -STAMP), ("read", 0, STAMP, STAMP))
        self.accept(log, 2 * STAMP, (((1, 0), (0, 0)), ("late", 0, 1)))
        self.refuse(log, 2 * STAMP - 1, (((1, 0), (0, 0)), ("late", 0, 1)))
        self.refuse(log, 2 * STAMP + 1, (((1, 0), (0, 0)), ("late", 0, 1)))

    def test_any_value(self):
        for log, tolerance in ((LOG, 2), (EARLY, 3), ((), 0), (LOST, 0)):
            for value in odd_values() + deepest_values() + [0, 1, -1, 10 ** 30]:
                self.refuse(log, tolerance, value)

    def test_lists_in_place_of_tuples(self):
        for log in (LOG, ZERO, EARLY):
            least, (shown, fault) = least_tolerance(log), evidence(log)
            self.accept(log, least, (shown, fault))
            for value in ([shown, fault], (list(shown), fault), (shown, list(fault)), {shown: fault},
                          ((shown, fault),), (tuple(map(list, shown)), fault)):
                self.refuse(log, least, value)

    def test_a_part_more_or_fewer(self):
        for log in (LOG, ZERO, EARLY):
            least, (shown, fault) = least_tolerance(log), evidence(log)
            for value in ((shown,), (fault,), shown, fault, (shown, fault, None), (shown, fault, fault),
                          (None, shown, fault), (fault, shown), (shown[1:], fault), (shown, fault[1:]),
                          (shown, fault + (0,)), (shown + shown[-1:], fault)):
                self.refuse(log, least, value)

    def test_any_value_in_each_place(self):
        for log in (LOG, ZERO, EARLY):
            least, (shown, fault) = least_tolerance(log), evidence(log)
            for value in odd_values() + deepest_values() + [0, 1, -1, 10 ** 30]:
                self.refuse(log, least, (value, fault))
                self.refuse(log, least, (shown, value))
                for place in range(len(fault)):
                    self.refuse(log, least, (shown, fault[:place] + (value,) + fault[place + 1:])
                                if repr(value) != repr(fault[place]) else (shown, None))
                for place in range(len(shown)):
                    self.refuse(log, least, (shown[:place] + (value,) + shown[place + 1:], fault))

    def test_bools_are_no_indexes(self):
        shown, fault = evidence(EARLY)
        self.assertEqual(fault, ("early", 0, 1))
        self.refuse(EARLY, 3, (shown, ("early", False, 1)))
        self.refuse(EARLY, 3, (shown, ("early", 0, True)))
        self.refuse(EARLY, 3, (tuple((bool(index), moment) for index, moment in shown), fault))


if __name__ == "__main__":
    unittest.main()
