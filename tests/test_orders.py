"""Sections 3 (points 3, 4 and 9), 4 (a, f) and 8: orders and moments."""

import unittest
from itertools import permutations

from clockslack.errors import BadOrder, Unexplained
from clockslack.faults import faults
from clockslack.orders import can_explain, explains, moments, order_for, shows_moments
from checks import Checked
from samples import EARLY, GREATEST_TOLERANCE, LOG, LOST, STAMP, TWO, ZERO, deepest_values, odd_values, writes
from search import all_faults, orders_that_explain
from small import mixed_logs, settled_logs, smallest_logs

MOMENTS = ((2, 10), (0, 10), (1, 10), (3, 22))


def log_read_often(count):
    """Make a log of one write and its reads, listed from the last one to the first one."""
    reads = tuple(("read", 1, number, number) for number in range(count - 1, 0, -1))
    return reads + (("write", 1, 0, 0),)


class Examples(Checked):

    def test_section_8_orders(self):
        self.assertEqual(
            [can_explain(LOG, 1), order_for(LOG, 2), explains(LOG, 2, (0, 1, 2, 3)),
             shows_moments(LOG, 2, moments(LOG, 2, (2, 0, 1, 3)))],
            [False, (2, 0, 1, 3), False, True])

    def test_section_8_moments(self):
        self.assertEqual([shows_moments(LOG, 2, MOMENTS), shows_moments(LOG, 1, MOMENTS)], [True, False])

    def test_section_8_unexplained(self):
        with self.assertRaises(Unexplained) as held:
            order_for(EARLY, 2)
        self.assertEqual(held.exception.fault, ("early", 0, 1))


class Explains(Checked):

    def accept(self, log, tolerance, value):
        self.accepts(explains, log=log, tolerance=tolerance, value=value)

    def refuse(self, log, tolerance, value):
        self.refuses(explains, log=log, tolerance=tolerance, value=value)

    def test_every_order_of_the_samples(self):
        for log, tolerance, orders in (
                (LOG, 0, []), (LOG, 1, []), (LOG, 2, [(2, 0, 1, 3)]), (LOG, 4, [(0, 1, 3, 2), (2, 0, 1, 3)]),
                (LOG, 7, [(0, 1, 3, 2), (2, 0, 1, 3)]),
                (LOG, 8, [(0, 1, 3, 2), (0, 3, 1, 2), (2, 0, 1, 3), (2, 0, 3, 1)]),
                (ZERO, 3, []), (ZERO, 4, [(1, 0)]), (EARLY, 2, []), (EARLY, 3, [(1, 0)]), (LOST, 9, []),
                (TWO, 0, [(2, 0, 1), (2, 1, 0)]), ((), 0, [()])):
            for order in permutations(range(len(log))):
                self.assertIs(self.result(explains, log=log, tolerance=tolerance, value=order), order in orders)

    def test_stamps_within_the_tolerance_and_one_less(self):
        log = (("write", 1, 0, 4), ("write", 2, 9, 10))
        self.accept(log, 0, (0, 1))
        self.refuse(log, 4, (1, 0))
        self.accept(log, 5, (1, 0))
        log = (("write", 2, 9, 9), ("write", 1, 3, 3), ("write", 3, 0, 0))
        self.refuse(log, 8, (0, 1, 2))
        self.accept(log, 9, (0, 1, 2))
        self.refuse(log, 2, (2, 0, 1))
        self.accept(log, 6, (2, 0, 1))

    def test_stamps_of_operations_that_are_not_next_to_each_other(self):
        # Only the first one and the last one are surely before: 9 is over 0.
        log = (("write", 1, 9, 9), ("write", 2, 0, 20), ("write", 3, -5, 0))
        self.refuse(log, 8, (0, 1, 2))
        self.accept(log, 9, (0, 1, 2))

    def test_equal_stamps_may_stand_in_any_order(self):
        log = (("write", 1, 3, 3), ("write", 2, 3, 3), ("write", 3, 3, 3))
        for order in permutations(range(3)):
            self.accept(log, 0, order)

    def test_an_end_equal_to_a_begin_may_stand_in_any_order(self):
        log = (("write", 1, 0, 5), ("write", 2, 5, 9))
        self.accept(log, 0, (0, 1))
        self.accept(log, 0, (1, 0))

    def test_values(self):
        log = (("write", 1, 0, 9), ("write", 2, 0, 9), ("read", 1, 0, 9), ("read", 2, 0, 9), ("read", 0, 0, 9))
        for order in ((4, 0, 2, 1, 3), (4, 1, 3, 0, 2)):
            self.accept(log, 0, order)
        for order in ((0, 2, 1, 3, 4), (4, 0, 1, 3, 2), (4, 0, 3, 1, 2), (0, 4, 2, 1, 3), (4, 2, 0, 1, 3),
                      (4, 1, 2, 0, 3)):
            self.refuse(log, 0, order)

    def test_one_write_of_one_value_does_not_bring_it_back(self):
        log = (("write", 1, 0, 9), ("read", 1, 0, 9), ("write", 2, 0, 9), ("read", 1, 0, 9))
        self.refuse(log, 0, (0, 1, 2, 3))
        self.accept(log, 0, (0, 1, 3, 2))

    def test_the_empty_log(self):
        self.accept((), 0, ())
        for value in ((0,), [], None, False, "", {}):
            self.refuse((), 0, value)

    def test_stamps_and_tolerances_at_their_limits(self):
        log = (("write", 1, STAMP, STAMP), ("write", 2, -STAMP, -STAMP))
        self.accept(log, 0, (1, 0))
        self.refuse(log, 2 * STAMP - 1, (0, 1))
        self.accept(log, 2 * STAMP, (0, 1))
        self.accept(log, GREATEST_TOLERANCE, (0, 1))

    def test_a_full_log(self):
        upwards, downwards = tuple(range(200)), tuple(reversed(range(200)))
        self.accept(writes(200), 0, upwards)
        self.refuse(writes(200), 198, downwards)
        self.accept(writes(200), 199, downwards)
        self.refuse(writes(200), 0, upwards[:-1])
        self.refuse(writes(200), 0, upwards[:-1] + (198,))
        self.refuse(writes(200), 0, upwards[:-1] + (200,))
        self.accept(log_read_often(200), 0, downwards)
        self.refuse(log_read_often(200), 0, (198, 199) + downwards[2:])

    def test_by_the_words_of_definition_4(self):
        for log in list(mixed_logs(21, 150, 5)) + list(settled_logs(22, 150, 5)):
            for tolerance in (0, 1, 3):
                explaining = orders_that_explain(log, tolerance)
                for order in permutations(range(len(log))):
                    self.assertIs(explains(log, tolerance, order), order in explaining, (log, tolerance, order))

    def test_any_value(self):
        for log, tolerance in ((LOG, 2), (EARLY, 3), (LOST, 0)):
            for value in odd_values() + deepest_values() + [0, 1, -1, 10 ** 30]:
                self.refuse(log, tolerance, value)
        for value in odd_values() + deepest_values() + [0, 1, -1, 10 ** 30]:
            if value != (0,):
                self.refuse(ZERO[:1], 0, value)

    def test_a_list_is_no_order(self):
        self.refuse(LOG, 2, [2, 0, 1, 3])
        self.refuse(LOG, 2, ((2, 0, 1, 3),))
        self.refuse(LOG, 2, ((2,), (0,), (1,), (3,)))
        self.refuse(LOG, 2, {2: 0, 0: 0, 1: 0, 3: 0})
        self.refuse(LOG, 2, "2013")
        self.refuse(LOG, 2, ("2", "0", "1", "3"))

    def test_an_index_more_or_fewer(self):
        order = (2, 0, 1, 3)
        for place in range(4):
            self.refuse(LOG, 2, order[:place])
            self.refuse(LOG, 2, order[:place] + order[place + 1:])
            for value in (0, 1, 2, 3, 4, -1, None):
                self.refuse(LOG, 2, order[:place] + (value,) + order[place:])

    def test_any_value_in_each_place(self):
        order = (2, 0, 1, 3)
        for place in range(4):
            for value in odd_values() + deepest_values() + [0, 1, 2, 3, 4, -1, -2, -3, -4, 10 ** 30]:
                if repr(value) != repr(order[place]):
                    self.refuse(LOG, 2, order[:place] + (value,) + order[place + 1:])

    def test_bools_are_no_indexes(self):
        self.refuse(EARLY, 3, (True, 0))
        self.refuse(EARLY, 3, (1, False))
        self.refuse(ZERO[:1], 0, (False,))


class CanExplain(Checked):

    def test_the_bound_and_one_less(self):
        for log, least in ((LOG, 2), (ZERO, 4), (EARLY, 3)):
            for tolerance in (0, least - 1):
                self.refuses(can_explain, log=log, tolerance=tolerance)
            for tolerance in (least, least + 1, 100, GREATEST_TOLERANCE):
                self.accepts(can_explain, log=log, tolerance=tolerance)

    def test_within_every_tolerance_or_none(self):
        for tolerance in (0, 1, GREATEST_TOLERANCE):
            for log in ((), LOG[:3], TWO, writes(200), log_read_often(200), (("read", 0, 0, 1),) * 200):
                self.accepts(can_explain, log=log, tolerance=tolerance)
            for log in (LOST, LOG + LOST, LOST * 200):
                self.refuses(can_explain, log=log, tolerance=tolerance)

    def test_stamps_at_their_limits(self):
        log = (("write", 1, -STAMP, -STAMP), ("read", 0, STAMP, STAMP))
        self.refuses(can_explain, log=log, tolerance=2 * STAMP - 1)
        self.accepts(can_explain, log=log, tolerance=2 * STAMP)

    def test_exactly_if_there_is_an_order_and_exactly_if_there_is_no_fault(self):
        for log in list(smallest_logs()) + list(mixed_logs(23, 500, 6)) + list(settled_logs(24, 200, 6)):
            for tolerance in (0, 1, 2, 5):
                expected = bool(orders_that_explain(log, tolerance))
                self.assertIs(can_explain(log, tolerance), expected, (log, tolerance))
                if len(log) < 5:
                    self.assertIs(not all_faults(log, tolerance), expected, (log, tolerance))

    def test_a_greater_tolerance_and_fewer_values(self):
        for log in mixed_logs(25, 300, 8):
            for tolerance in range(8):
                if can_explain(log, tolerance):
                    self.assertTrue(can_explain(log, tolerance + 1))
                    for value in range(5):
                        rest = tuple(operation for operation in log if operation[1] != value)
                        self.assertTrue(can_explain(rest, tolerance))


class OrderFor(Checked):

    def check(self, log, tolerance):
        order = self.result(order_for, log=log, tolerance=tolerance)
        self.assertIs(order.__class__, tuple)
        self.assertIs(explains(log, tolerance, order), True, (log, tolerance, order))

    def test_the_bound_and_more(self):
        for log, least in ((LOG, 2), (ZERO, 4), (EARLY, 3), (TWO, 0), ((), 0), (LOG[:3], 0)):
            for tolerance in (least, least + 1, least + 7, GREATEST_TOLERANCE):
                self.check(log, tolerance)

    def test_full_logs(self):
        for tolerance in (0, 1, 100, GREATEST_TOLERANCE):
            for log in (writes(200), tuple(reversed(writes(200))), log_read_often(200),
                        (("read", 0, 0, 1),) * 200):
                self.check(log, tolerance)

    def test_reads_of_0_and_stamps_at_their_limits(self):
        log = (("write", 1, -STAMP, -STAMP), ("read", 0, STAMP, STAMP), ("read", 1, STAMP, STAMP),
               ("read", 0, -STAMP, STAMP))
        self.check(log, 2 * STAMP)
        self.check(log, GREATEST_TOLERANCE)

    def test_narrow_values_beside_wide_ones(self):
        # 1 is wide, from 5 to 10; 2 and 3 are narrow and on either side of it.
        wide = (("write", 1, 0, 5), ("read", 1, 10, 11))
        self.check(wide + (("write", 2, 0, 9),), 0)
        self.check(wide + (("write", 2, 8, 20),), 0)
        self.check((("write", 3, 9, 20), ("write", 2, 1, 9)) + wide, 0)

    def test_small_logs(self):
        for log in list(smallest_logs()) + list(mixed_logs(26, 500, 6)) + list(settled_logs(27, 400, 6)):
            for tolerance in (0, 1, 2, 5):
                explaining = orders_that_explain(log, tolerance)
                if explaining:
                    self.assertIn(order_for(log, tolerance), explaining)
                else:
                    with self.assertRaises(Unexplained) as held:
                        order_for(log, tolerance)
                    self.assertEqual(held.exception.fault, list(faults(log, tolerance))[0])

    def test_longer_logs(self):
        for log in list(mixed_logs(28, 100, 40)) + list(settled_logs(29, 200, 60)):
            for tolerance in (0, 3, 6, 12):
                if can_explain(log, tolerance):
                    self.assertTrue(explains(log, tolerance, order_for(log, tolerance)), (log, tolerance))

    def test_unexplained_with_the_first_fault(self):
        for log, tolerance, fault in (
                (LOG, 0, ("crossed", 1, 2, 2, 3)), (LOG, 1, ("crossed", 1, 2, 2, 3)), (ZERO, 3, ("late", 0, 1)),
                (LOST, GREATEST_TOLERANCE, ("unwritten", 0)), (EARLY + LOST * 2, 0, ("unwritten", 2)),
                (EARLY + LOST, 5, ("unwritten", 2)), (EARLY + ZERO[1:], 0, ("early", 0, 1)),
                (LOST * 200, 0, ("unwritten", 0))):
            self.raises(Unexplained, {"fault": fault}, order_for, log=log, tolerance=tolerance)


class Moments(Checked):

    def check(self, log, tolerance, order):
        found = self.result(moments, log=log, tolerance=tolerance, order=order)
        self.assertIs(found.__class__, tuple)
        self.assertEqual(tuple(index for index, _ in found), order)
        self.assertIs(shows_moments(log, tolerance, found), True, (log, tolerance, order))
        for place, (index, moment) in enumerate(found):
            _, _, begin, end = log[index]
            self.assertIs(moment.__class__, int)
            self.assertTrue(2 * begin - tolerance <= moment <= 2 * end + tolerance)
            self.assertTrue(place == 0 or found[place - 1][1] <= moment)

    def refuse(self, log, tolerance, order):
        self.raises(BadOrder, {"value": order}, moments, log=log, tolerance=tolerance, order=order)

    def test_the_samples(self):
        for log, tolerance, order in (
                (LOG, 2, (2, 0, 1, 3)), (LOG, 4, (0, 1, 3, 2)), (LOG, 8, (0, 3, 1, 2)), (ZERO, 4, (1, 0)),
                (EARLY, 3, (1, 0)), (TWO, 0, (2, 1, 0)), (TWO, 0, (2, 0, 1)), ((), 0, ())):
            self.check(log, tolerance, order)

    def test_tolerances_and_stamps_at_their_limits(self):
        log = (("write", 1, STAMP, STAMP), ("write", 2, -STAMP, -STAMP))
        self.check(log, 0, (1, 0))
        self.check(log, 2 * STAMP, (0, 1))
        self.check(log, GREATEST_TOLERANCE, (0, 1))
        self.refuse(log, 2 * STAMP - 1, (0, 1))

    def test_full_logs(self):
        self.check(writes(200), 0, tuple(range(200)))
        self.check(writes(200), 199, tuple(reversed(range(200))))
        self.refuse(writes(200), 198, tuple(reversed(range(200))))
        self.check(log_read_often(200), 0, tuple(reversed(range(200))))

    def test_for_every_order_that_explains_a_small_log(self):
        for log in list(mixed_logs(31, 200, 5)) + list(settled_logs(32, 200, 5)):
            for tolerance in (0, 1, 4):
                for order in orders_that_explain(log, tolerance)[:20]:
                    self.check(log, tolerance, order)

    def test_orders_that_do_not_explain(self):
        for order in permutations(range(4)):
            self.refuse(LOG, 1, order)
            if order != (2, 0, 1, 3):
                self.refuse(LOG, 2, order)
        self.refuse(EARLY, 2, (1, 0))
        self.refuse(EARLY, 3, (0, 1))
        self.refuse(LOST, GREATEST_TOLERANCE, (0,))

    def test_any_value(self):
        for log, tolerance in ((LOG, 2), (EARLY, 3), (LOST, 0)):
            for value in odd_values() + deepest_values() + [0, -1, 10 ** 30, [2, 0, 1, 3], (2, 0, True, 3), (1, False)]:
                self.refuse(log, tolerance, value)
        for value in ([], None, False, {}, "", 0, (0,)):
            self.refuse((), 0, value)

    def test_the_very_value_is_told(self):
        for value in ([2, 0, 1, 3], {"order": (2, 0, 1, 3)}, (0, 1, 2, [3])):
            with self.assertRaises(BadOrder) as held:
                moments(LOG, 2, value)
            self.assertIs(held.exception.value, value)


class ShowsMoments(Checked):

    def accept(self, log, tolerance, value):
        self.accepts(shows_moments, log=log, tolerance=tolerance, value=value)

    def refuse(self, log, tolerance, value):
        self.refuses(shows_moments, log=log, tolerance=tolerance, value=value)

    def test_each_moment_up_to_its_limits(self):
        for kind in ("write", "read"):
            log = ((kind, 1 if kind == "write" else 0, 3, 5),)
            for tolerance in (0, 1, 4):
                for moment in (6 - tolerance, 6, 10, 10 + tolerance):
                    self.accept(log, tolerance, ((0, moment),))
                for moment in (6 - tolerance - 1, 10 + tolerance + 1, -6, 10 ** 30, -10 ** 30):
                    self.refuse(log, tolerance, ((0, moment),))

    def test_limits_of_later_moments(self):
        log = (("write", 1, 0, 1), ("write", 2, 4, 5))
        for moment in (7, 8, 10, 11):
            self.accept(log, 1, ((0, 2), (1, moment)))
        for moment in (6, 12):
            self.refuse(log, 1, ((0, 2), (1, moment)))

    def test_each_moment_is_at_least_the_one_before_it(self):
        log = (("write", 1, 0, 9), ("write", 2, 0, 9), ("write", 3, 0, 9))
        self.accept(log, 0, ((0, 4), (1, 4), (2, 4)))
        self.accept(log, 0, ((2, 0), (0, 4), (1, 18)))
        self.refuse(log, 0, ((0, 5), (1, 4), (2, 6)))
        self.refuse(log, 0, ((0, 4), (1, 6), (2, 5)))
        # Not only at least the first one.
        self.refuse(log, 0, ((0, 2), (1, 6), (2, 4)))

    def test_moments_below_0(self):
        log = (("write", 1, -9, -2), ("write", 2, -9, -2))
        self.accept(log, 0, ((1, -18), (0, -4)))
        self.refuse(log, 0, ((1, -4), (0, -18)))
        self.refuse(log, 0, ((1, -19), (0, -4)))
        self.refuse(log, 0, ((1, -18), (0, -3)))

    def test_each_index_once(self):
        log = (("write", 1, 0, 9), ("write", 2, 0, 9))
        self.accept(log, 0, ((0, 4), (1, 4)))
        for value in (((0, 4),), ((1, 4),), ((0, 4), (0, 4)), ((1, 4), (1, 4)), ((0, 4), (1, 4), (0, 4)),
                      ((0, 4), (1, 4), (1, 4)), ((0, 4), (2, 4)), ((0, 4), (-1, 4)), ((-2, 4), (-1, 4)), ()):
            self.refuse(log, 0, value)

    def test_reads(self):
        log = (("write", 1, 0, 9), ("read", 1, 0, 9), ("read", 0, 0, 9), ("write", 2, 0, 9))
        self.accept(log, 0, ((2, 4), (0, 4), (1, 4), (3, 4)))
        self.accept(log, 0, ((2, 4), (3, 4), (0, 4), (1, 4)))
        for indexes in ((0, 1, 2, 3), (2, 1, 0, 3), (2, 0, 3, 1), (1, 2, 0, 3), (2, 3, 1, 0)):
            self.refuse(log, 0, tuple((index, 4) for index in indexes))

    def test_values_without_a_write(self):
        for moment in (0, 1, 2):
            self.refuse(LOST, 0, ((0, moment),))

    def test_the_sample_within_the_tolerance_and_one_less(self):
        self.accept(LOG, 2, MOMENTS)
        self.refuse(LOG, 1, MOMENTS)
        self.accept(LOG, 3, MOMENTS)
        self.accept(LOG, GREATEST_TOLERANCE, MOMENTS)

    def test_the_empty_log(self):
        self.accept((), 0, ())
        for value in (((0, 0),), ((),), [], None, False, "", {}):
            self.refuse((), 0, value)

    def test_stamps_and_tolerances_at_their_limits(self):
        log = (("write", 1, STAMP, STAMP), ("write", 2, -STAMP, -STAMP))
        self.accept(log, 2 * STAMP, ((0, 0), (1, 0)))
        self.refuse(log, 2 * STAMP - 1, ((0, 0), (1, 0)))
        self.accept(log, 0, ((1, -2 * STAMP), (0, 2 * STAMP)))
        most = 2 * STAMP + GREATEST_TOLERANCE
        self.accept(log, GREATEST_TOLERANCE, ((1, -most), (0, most)))
        self.refuse(log, GREATEST_TOLERANCE, ((1, -most - 1), (0, most)))
        self.refuse(log, GREATEST_TOLERANCE, ((1, -most), (0, most + 1)))

    def test_a_full_log(self):
        pairs = tuple((index, 2 * index) for index in range(200))
        self.accept(writes(200), 0, pairs)
        self.refuse(writes(200), 0, pairs[:-1])
        self.refuse(writes(200), 0, pairs[:-1] + ((198, 398),))
        self.refuse(writes(200), 0, pairs + ((200, 400),))

    def test_only_if_its_indexes_are_an_order_that_explains(self):
        for log in list(mixed_logs(33, 100, 4)) + list(settled_logs(34, 100, 4)):
            for tolerance in (0, 2):
                explaining = orders_that_explain(log, tolerance)
                for order in permutations(range(len(log))):
                    latest, pairs = -100, []
                    for index in order:
                        latest = max(latest, 2 * log[index][2] - tolerance)
                        pairs.append((index, latest))
                    found = shows_moments(log, tolerance, tuple(pairs))
                    self.assertIs(found, order in explaining, (log, tolerance, pairs))

    def test_any_value(self):
        for log, tolerance in ((LOG, 2), (EARLY, 3), (LOST, 0)):
            for value in odd_values() + deepest_values() + [0, 1, -1, 10 ** 30, (2, 0, 1, 3)]:
                self.refuse(log, tolerance, value)

    def test_lists_in_place_of_tuples(self):
        self.refuse(LOG, 2, list(MOMENTS))
        self.refuse(LOG, 2, (MOMENTS,))
        self.refuse(LOG, 2, dict(MOMENTS))
        self.refuse(LOG, 2, dict(enumerate(MOMENTS)))
        for place in range(4):
            self.refuse(LOG, 2, MOMENTS[:place] + (list(MOMENTS[place]),) + MOMENTS[place + 1:])

    def test_a_part_more_or_fewer(self):
        for place in range(4):
            index, moment = MOMENTS[place]
            self.refuse(LOG, 2, MOMENTS[:place] + MOMENTS[place + 1:])
            self.refuse(LOG, 2, MOMENTS[:place] + MOMENTS[place:place + 1] + MOMENTS[place:])
            for pair in ((), (index,), (moment,), (index, moment, moment), (index, moment, None), (index, (moment,))):
                self.refuse(LOG, 2, MOMENTS[:place] + (pair,) + MOMENTS[place + 1:])

    def test_any_value_in_each_place(self):
        for place in range(4):
            index, moment = MOMENTS[place]
            for value in odd_values() + deepest_values() + [-1, 4, 10 ** 30, -10 ** 30]:
                for pair in (value, (value, moment), (index, value)):
                    self.refuse(LOG, 2, MOMENTS[:place] + (pair,) + MOMENTS[place + 1:])

    def test_bools_are_neither_indexes_nor_moments(self):
        log = (("write", 1, 0, 9), ("write", 2, 0, 9))
        for value in (((False, 4), (1, 4)), ((0, 4), (True, 4)), ((0, False), (1, 4)), ((0, False), (1, True)),
                      ((0, 0), (1, True))):
            self.refuse(log, 0, value)


if __name__ == "__main__":
    unittest.main()
