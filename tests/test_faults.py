"""Sections 3 (points 5 to 8), 4 (a, b, f) and 7: faults and their bounds."""

import unittest

from clockslack.faults import bound_of, faults, shows_fault
from checks import Checked
from samples import EARLY, GREATEST_TOLERANCE, LOG, LOST, STAMP, ZERO, deepest_values, odd_values, writes
from search import all_faults, bound_by_search, candidates, given_faults, is_fault
from small import mixed_logs, smallest_logs

# Several faults of each kind: 9 and 8 are unwritten, 3 and 4 are read early,
# and all of 0, 1, 2, 3 and 4 are before each other.
MANY = (
    ("read", 4, 0, 1), ("read", 9, 0, 1), ("write", 4, 50, 51), ("read", 0, 60, 61), ("write", 3, 40, 41),
    ("read", 3, 0, 1), ("write", 2, 0, 1), ("read", 2, 50, 51), ("read", 8, 70, 71), ("write", 1, 0, 1),
    ("read", 1, 50, 51), ("read", 3, 2, 3), ("read", 9, 80, 81))


def listed(log, tolerance):
    return list(faults(log, tolerance))


class Examples(Checked):

    def test_section_7_faults(self):
        self.assertEqual(
            [list(faults(LOG, 0)), list(faults(LOG, 2)), list(faults(ZERO, 3)), list(faults(EARLY + LOST, 0))],
            [[("crossed", 1, 2, 2, 3)], [], [("late", 0, 1)], [("unwritten", 2), ("early", 0, 1)]])

    def test_section_7_bounds(self):
        self.assertEqual(
            [bound_of(LOG, ("crossed", 1, 2, 2, 3)), bound_of(ZERO, ("late", 0, 1)),
             shows_fault(LOG, 1, ("crossed", 2, 3, 1, 2)), shows_fault(LOG, 0, ("late", 0, 1))],
            [2, 4, True, False])


class Given(Checked):

    def check(self, log, tolerance, given):
        found = self.result(listed, log=log, tolerance=tolerance)
        self.assertEqual(repr(found), repr(given))
        self.assertEqual([fault for fault in faults(tolerance=tolerance, log=log)], given)

    def test_the_sequence(self):
        unwritten = [("unwritten", 1), ("unwritten", 8), ("unwritten", 12)]
        early = [("early", 0, 2), ("early", 5, 4), ("early", 11, 4)]
        pairs = [
            ("late", 9, 3), ("late", 6, 3), ("late", 5, 3), ("late", 0, 3),
            ("crossed", 9, 7, 6, 10), ("crossed", 9, 4, 5, 10), ("crossed", 9, 2, 0, 10),
            ("crossed", 6, 4, 5, 7), ("crossed", 6, 2, 0, 7), ("crossed", 5, 2, 0, 4)]
        self.check(MANY, 0, unwritten + early + pairs)
        self.check(MANY, GREATEST_TOLERANCE, unwritten)

    def test_the_sequence_where_some_are_none(self):
        # 39 is the bound of the early read 5, and of the pairs with 3.
        self.check(MANY, 39, [
            ("unwritten", 1), ("unwritten", 8), ("unwritten", 12), ("early", 0, 2),
            ("late", 9, 3), ("late", 6, 3), ("late", 5, 3), ("late", 0, 3),
            ("crossed", 9, 7, 6, 10), ("crossed", 9, 2, 0, 10), ("crossed", 6, 2, 0, 7)])

    def test_the_empty_log(self):
        for tolerance in (0, 1, GREATEST_TOLERANCE):
            self.check((), tolerance, [])

    def test_none(self):
        for log in (ZERO[:1], ZERO[::-1][:1], EARLY[1:], LOG[:3], writes(5), (("read", 0, 0, 1),) * 3):
            self.check(log, 0, [])

    def test_unwritten_within_every_tolerance(self):
        for tolerance in (0, 1, GREATEST_TOLERANCE):
            self.check(LOST, tolerance, [("unwritten", 0)])
            self.check(LOG + LOST * 2, tolerance + 2, [("unwritten", 4), ("unwritten", 5)])

    def test_reads_of_0_are_not_unwritten(self):
        self.check((("read", 0, 5, 5), ("read", 0, 9, 9)), 0, [])
        self.check((("read", 0, 5, 5), ("write", 1, 4, 7), ("read", 0, 2, 9)), 0, [])

    def test_early_within_the_bound_and_one_less(self):
        self.check(EARLY, 0, [("early", 0, 1)])
        self.check(EARLY, 2, [("early", 0, 1)])
        self.check(EARLY, 3, [])

    def test_early_for_each_read(self):
        log = (("read", 1, 0, 2), ("write", 1, 5, 6), ("read", 1, 0, 4), ("read", 1, 0, 5), ("read", 1, -9, -8))
        self.check(log, 0, [("early", 0, 1), ("early", 2, 1), ("early", 4, 1)])
        self.check(log, 1, [("early", 0, 1), ("early", 4, 1)])
        self.check(log, 3, [("early", 4, 1)])

    def test_crossed_within_the_bound_and_one_less(self):
        self.check(LOG, 1, [("crossed", 1, 2, 2, 3)])
        self.check(LOG, 2, [])

    def test_crossed_needs_both(self):
        # 1 ends at 1 and begins again at 20; 2 ends at 13 and begins again at 12.
        log = (("write", 1, 0, 1), ("read", 1, 20, 21), ("write", 2, 12, 13))
        self.check(log, 6, [("crossed", 0, 2, 2, 1)])
        self.check(log, 7, [])
        # The other one is the lesser one: 2 ends at 8, 1 begins again at 20.
        log = (("write", 1, 0, 1), ("read", 1, 20, 21), ("write", 2, 5, 8))
        self.check(log, 3, [("crossed", 0, 2, 2, 1)])
        self.check(log, 4, [])

    def test_crossed_once_for_each_pair_with_the_lesser_value_first(self):
        log = (("write", 5, 4, 5), ("write", 3, 0, 1), ("read", 3, 8, 9), ("read", 5, 8, 9))
        self.check(log, 0, [("crossed", 1, 3, 0, 2)])

    def test_late_within_the_bound_and_one_less(self):
        self.check(ZERO, 0, [("late", 0, 1)])
        self.check(ZERO, 3, [("late", 0, 1)])
        self.check(ZERO, 4, [])

    def test_late_by_the_other_value(self):
        log = (("read", 0, 9, 9), ("read", 2, 0, 1), ("write", 2, 0, 2), ("write", 1, 3, 4), ("write", 3, 9, 9))
        self.check(log, 0, [("late", 3, 0), ("late", 1, 0)])

    def test_reads_of_0_early_are_no_fault(self):
        self.check((("read", 0, 0, 1), ("read", 0, -5, -4), ("write", 1, 5, 6)), 0, [])
        self.check((("read", 0, 5, 9), ("write", 1, 5, 6)), 0, [])

    def test_of_several_operations_the_least_index(self):
        log = (("write", 1, 0, 3), ("read", 1, 1, 3), ("read", 1, 9, 9), ("read", 1, 9, 12),
               ("read", 2, 8, 8), ("read", 2, 8, 9), ("write", 2, 0, 5), ("read", 2, 4, 5))
        self.check(log, 0, [("crossed", 0, 4, 6, 2)])
        late = (("read", 0, 2, 2), ("read", 0, 7, 9), ("read", 0, 7, 7),
                ("write", 1, 0, 4), ("read", 1, 1, 3), ("read", 1, 3, 3))
        self.check(late, 0, [("late", 4, 1)])

    def test_an_operation_may_be_both(self):
        log = (("write", 1, 0, 1), ("read", 1, 9, 9), ("write", 2, 3, 4))
        self.check(log, 0, [("crossed", 0, 2, 2, 1)])

    def test_equal_stamps(self):
        self.check((("write", 1, 3, 3), ("write", 2, 3, 3), ("read", 1, 3, 3), ("read", 2, 3, 3)), 0, [])

    def test_unwritten_values_are_in_no_pair(self):
        log = (("read", 1, 0, 1), ("read", 1, 9, 9), ("write", 2, 3, 4), ("read", 0, 9, 9), ("read", 5, 0, 1))
        self.check(log, 0, [("unwritten", 0), ("unwritten", 1), ("unwritten", 4), ("late", 2, 3)])

    def test_stamps_and_tolerances_at_their_limits(self):
        log = (("write", 1, STAMP, STAMP), ("read", 1, -STAMP, -STAMP), ("read", 0, STAMP, STAMP))
        given = [("early", 1, 0), ("late", 1, 2)]
        self.check(log, 0, given)
        self.check(log, 2 * STAMP - 1, given)
        self.check(log, 2 * STAMP, [])
        self.check(log, GREATEST_TOLERANCE, [])
        log = (("write", 1, -STAMP, -STAMP), ("read", 1, STAMP, STAMP), ("write", 2, 0, 0))
        self.check(log, STAMP - 1, [("crossed", 0, 2, 2, 1)])
        self.check(log, STAMP, [])

    def test_full_logs(self):
        self.check(writes(200), 0, [])
        self.check(tuple(reversed(writes(200))), 0, [])
        self.check(LOST * 200, GREATEST_TOLERANCE, [("unwritten", index) for index in range(200)])
        self.check((("write", 7, 5, 6),) + LOST * 199, 3, [("early", index, 0) for index in range(1, 200)])
        self.check((("write", 7, 5, 6),) + LOST * 199, 4, [])

    def test_a_full_log_with_every_pair_crossed(self):
        # Each value is written at first and read again at last.
        log = tuple((kind, value, stamp, stamp) for kind, stamp in (("write", 0), ("read", 9)) for value in range(1, 101))
        self.check(log, 9, [])
        self.check(log, 8, [("crossed", one, other + 100, other, one + 100)
                            for one in range(100) for other in range(one + 1, 100)])

    def test_as_the_words_say_for_small_logs(self):
        for log in list(smallest_logs()) + list(mixed_logs(11, 600, 6)):
            for tolerance in (0, 1, 3):
                self.assertEqual(list(faults(log, tolerance)), given_faults(log, tolerance), (log, tolerance))


class Shown(Checked):

    def accept(self, log, tolerance, value):
        self.accepts(shows_fault, log=log, tolerance=tolerance, value=value)

    def refuse(self, log, tolerance, value):
        self.refuses(shows_fault, log=log, tolerance=tolerance, value=value)

    def test_what_faults_gives(self):
        for log in (LOG, ZERO, EARLY, LOST, MANY):
            for tolerance in (0, 1, 2):
                for fault in faults(log, tolerance):
                    self.accept(log, tolerance, fault)

    def test_unwritten(self):
        for tolerance in (0, GREATEST_TOLERANCE):
            self.accept(LOG + LOST, tolerance, ("unwritten", 4))
            for index in range(4):
                self.refuse(LOG + LOST, tolerance, ("unwritten", index))
            self.refuse(ZERO, tolerance, ("unwritten", 1))
            self.refuse(LOST + (("write", 7, 8, 9),), tolerance, ("unwritten", 0))

    def test_early_within_the_bound_and_one_less(self):
        self.accept(EARLY, 2, ("early", 0, 1))
        self.refuse(EARLY, 3, ("early", 0, 1))

    def test_early_of_other_operations(self):
        log = EARLY + (("read", 1, 9, 9), ("write", 2, 9, 9), ("read", 2, 0, 0), ("write", 3, 0, 0))
        self.accept(log, 0, ("early", 4, 3))
        # Reads of another value, a later read in place of the write, a write in place of the read.
        for one, other in ((0, 3), (4, 1), (0, 2), (1, 2), (5, 1), (5, 3), (1, 0), (0, 0), (1, 1)):
            self.refuse(log, 0, ("early", one, other))

    def test_crossed_within_the_bound_and_one_less(self):
        for fault in (("crossed", 1, 2, 2, 3), ("crossed", 2, 3, 1, 2)):
            self.accept(LOG, 0, fault)
            self.accept(LOG, 1, fault)
            self.refuse(LOG, 2, fault)

    def test_crossed_that_faults_does_not_give(self):
        log = (("write", 1, 0, 1), ("read", 1, 2, 2), ("read", 1, 20, 21), ("write", 2, 5, 6), ("read", 2, 8, 9))
        for first in (0, 1):
            for other in (3, 4):
                for again in (3, 4):
                    self.accept(log, 0, ("crossed", first, other, again, 2))
                    self.accept(log, 0, ("crossed", again, 2, first, other))
        self.assertEqual(list(faults(log, 0)), [("crossed", 0, 4, 3, 2)])

    def test_crossed_of_values_without_a_write(self):
        log = (("read", 1, 0, 1), ("read", 1, 9, 9), ("read", 2, 3, 4))
        self.accept(log, 0, ("crossed", 0, 2, 2, 1))
        self.accept(log, 1, ("crossed", 0, 2, 2, 1))
        self.refuse(log, 2, ("crossed", 0, 2, 2, 1))

    def test_crossed_of_wrong_values(self):
        log = (("write", 1, 0, 1), ("read", 1, 5, 5), ("read", 1, 9, 9),
               ("read", 0, 0, 1), ("read", 0, 5, 5), ("read", 0, 9, 9),
               ("write", 2, 5, 5), ("write", 3, 5, 5), ("write", 4, 9, 9))
        self.accept(log, 0, ("crossed", 0, 6, 6, 2))
        # The same value throughout, 0 inside and outside, two values inside, two values outside.
        for indexes in ((0, 1, 1, 2), (0, 4, 4, 2), (3, 6, 6, 5), (0, 6, 7, 2), (0, 6, 6, 8), (3, 4, 4, 5)):
            self.refuse(log, 0, ("crossed",) + indexes)
        # Only one of the two is surely before.
        for indexes in ((0, 6, 6, 1), (1, 6, 6, 2), (2, 6, 6, 0)):
            self.refuse(log, 0, ("crossed",) + indexes)

    def test_late_within_the_bound_and_one_less(self):
        self.accept(ZERO, 3, ("late", 0, 1))
        self.refuse(ZERO, 4, ("late", 0, 1))

    def test_late_of_other_operations(self):
        log = (("read", 0, 0, 1), ("write", 1, 0, 1), ("read", 2, 0, 1), ("read", 0, 5, 6), ("read", 1, 5, 6))
        # c may also be a read, and its value may be unwritten.
        for index in (1, 2):
            self.accept(log, 0, ("late", index, 3))
        for one, other in ((0, 3), (1, 4), (2, 4), (1, 0), (3, 1), (4, 3), (3, 3), (0, 0)):
            self.refuse(log, 0, ("late", one, other))

    def test_stamps_at_their_limits(self):
        log = (("write", 1, -STAMP, -STAMP), ("read", 0, STAMP, STAMP))
        self.accept(log, 2 * STAMP - 1, ("late", 0, 1))
        self.refuse(log, 2 * STAMP, ("late", 0, 1))
        self.refuse(log, GREATEST_TOLERANCE, ("late", 0, 1))

    def test_a_full_log(self):
        log = LOST * 199 + (("write", 7, 2, 2),)
        self.accept(log, 0, ("early", 198, 199))
        self.refuse(log, 0, ("early", 199, 199))
        self.refuse(log, 0, ("early", 198, 200))

    def test_every_word_with_every_index_of_small_logs(self):
        for log in mixed_logs(12, 40, 5):
            for tolerance in (0, 2):
                for fault in candidates(log):
                    expected = is_fault(log, tolerance, fault)
                    self.assertIs(shows_fault(log, tolerance, fault), expected, (log, tolerance, fault))

    def test_any_value(self):
        for log in (LOG, LOST, ()):
            for value in odd_values() + deepest_values() + [0, 1, -1, 10 ** 30]:
                self.refuse(log, 0, value)

    def test_a_list_is_no_fault(self):
        for log in (LOG, ZERO, EARLY, LOST):
            for fault in faults(log, 0):
                self.accept(log, 0, fault)
                self.refuse(log, 0, list(fault))
                self.refuse(log, 0, (fault,))
                self.refuse(log, 0, (fault[0], fault[1:]))
                self.refuse(log, 0, dict(enumerate(fault)))

    def test_a_part_more_or_fewer(self):
        for log in (LOG, ZERO, EARLY, LOST):
            for fault in faults(log, 0):
                for part in (0, 1, None, "", fault[0], ()):
                    self.refuse(log, 0, fault + (part,))
                    self.refuse(log, 0, (part,) + fault)
                for place in range(len(fault)):
                    self.refuse(log, 0, fault[:place] + fault[place + 1:])
                    self.refuse(log, 0, fault[:place])

    def test_any_value_in_each_place(self):
        for log in (LOG, ZERO, EARLY, LOST):
            for fault in faults(log, 0):
                for place in range(len(fault)):
                    for value in odd_values() + deepest_values() + [-1, -2, len(log), 200, 10 ** 30, -10 ** 30]:
                        self.refuse(log, 0, fault[:place] + (value,) + fault[place + 1:])

    def test_negative_indexes_are_none(self):
        # Each of them would lead to the right operation from the other end.
        self.refuse(LOG, 0, ("crossed", -3, 2, 2, 3))
        self.refuse(LOG, 0, ("crossed", 1, 2, 2, -1))
        self.refuse(EARLY, 0, ("early", -2, -1))
        self.refuse(LOST, 0, ("unwritten", -1))
        self.refuse(ZERO, 0, ("late", 0, -1))

    def test_bools_are_no_indexes(self):
        self.refuse(LOG, 0, ("crossed", True, 2, 2, 3))
        self.refuse(EARLY, 0, ("early", 0, True))
        self.refuse(EARLY, 0, ("early", False, 1))
        self.refuse(LOST, 0, ("unwritten", False))
        self.refuse(ZERO, 0, ("late", False, 1))

    def test_other_words(self):
        for word in ("", "Late", "late ", " late", "lat", "crossed", "unwritten", "early", "bad", "late 0"):
            self.refuse(ZERO, 0, (word, 0, 1))
        for value in (("late",), ["late"], {"late": 0}, None, True, 0):
            self.refuse(ZERO, 0, (value, 0, 1))

    def test_the_empty_log_has_no_fault(self):
        for value in (("unwritten", 0), ("early", 0, 0), ("crossed", 0, 0, 0, 0), ("late", 0, 0), (), ("late",)):
            self.refuse((), 0, value)


class Bound(Checked):

    def check(self, log, fault, bound):
        found = self.result(bound_of, log=log, fault=fault)
        self.assertEqual(repr(found), repr(bound))

    def test_unwritten(self):
        self.check(LOST, ("unwritten", 0), None)
        self.check(MANY, ("unwritten", 12), None)

    def test_early(self):
        self.check(EARLY, ("early", 0, 1), 3)
        self.check(MANY, ("early", 11, 4), 37)

    def test_crossed_is_the_lesser_one(self):
        self.check(LOG, ("crossed", 1, 2, 2, 3), 2)
        self.check(LOG, ("crossed", 2, 3, 1, 2), 2)
        log = (("write", 1, 0, 1), ("read", 1, 20, 21), ("write", 2, 5, 8))
        self.check(log, ("crossed", 0, 2, 2, 1), 4)
        self.check(log, ("crossed", 2, 1, 0, 2), 4)
        log = (("write", 1, 0, 1), ("read", 1, 20, 21), ("write", 2, 12, 13))
        self.check(log, ("crossed", 0, 2, 2, 1), 7)

    def test_late(self):
        self.check(ZERO, ("late", 0, 1), 4)

    def test_stamps_at_their_limits(self):
        self.check((("write", 1, -STAMP, -STAMP), ("read", 0, STAMP, STAMP)), ("late", 0, 1), 2 * STAMP)
        self.check((("read", 1, -STAMP, -STAMP), ("write", 1, STAMP, STAMP)), ("early", 0, 1), 2 * STAMP)

    def test_it_is_the_least_tolerance_within_which_it_is_none(self):
        for log in mixed_logs(13, 150, 5):
            for fault in all_faults(log, 0):
                bound = bound_of(log, fault)
                self.assertEqual(bound, bound_by_search(log, fault), (log, fault))
                if bound is None:
                    self.assertTrue(shows_fault(log, GREATEST_TOLERANCE, fault))
                else:
                    self.assertTrue(shows_fault(log, bound - 1, fault), (log, fault))
                    self.assertFalse(shows_fault(log, bound, fault), (log, fault))
                    self.assertFalse(shows_fault(log, bound + 1, fault), (log, fault))


if __name__ == "__main__":
    unittest.main()
