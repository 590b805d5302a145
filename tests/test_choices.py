"""Sections 4 (c) and 10: what must come before what, positions and final values."""

import unittest

from clockslack.choices import final_values, must_precede, order_with, positions
from clockslack.errors import NoPosition, NoValue, Unexplained
from clockslack.faults import faults
from clockslack.least import least_tolerance
from clockslack.orders import can_explain, explains
from clockslack.values import values_of
from checks import Checked
from samples import EARLY, GREATEST_TOLERANCE, LOG, LOST, STAMP, TWO, ZERO, deepest_values, odd_values, writes
from search import final_value, orders_that_explain, places_of, position_of, stand_together
from small import mixed_logs, settled_logs, smallest_logs

# Within 0, 1 is before 2 (7 is less than 8) and 2 before 3 (2 is less than 3),
# but 1 is not before 3 (7 is not less than 3). Within 1, no value is before another one.
BETWEEN = (("write", 1, 0, 7), ("write", 3, 3, 12), ("write", 2, 0, 2), ("read", 2, 8, 9))


def searched_logs():
    """Yield a log, a tolerance and all orders that explain it, if there are any."""
    for log in list(smallest_logs()) + list(mixed_logs(51, 300, 6)) + list(settled_logs(52, 400, 6)):
        for tolerance in (0, 1, 4):
            explaining = orders_that_explain(log, tolerance)
            if explaining:
                yield log, tolerance, explaining


class Examples(Checked):

    def test_section_10_choices(self):
        self.assertEqual(
            [must_precede(LOG, 2, 2, 1), must_precede(TWO, 0, 1, 2), positions(TWO, 0, 2), final_values(TWO, 0),
             final_values(LOG, 2), final_values((), 0)],
            [True, False, (1, 2), (1, 2), (1,), (0,)])

    def test_section_10_order_with(self):
        self.assertEqual([order_with(TWO, 0, 2, 1), order_with(TWO, 0, 2, 2)], [(2, 1, 0), (2, 0, 1)])


class MustPrecede(Checked):

    def accept(self, log, tolerance, one, other):
        self.accepts(must_precede, log=log, tolerance=tolerance, one=one, other=other)

    def refuse(self, log, tolerance, one, other):
        self.refuses(must_precede, log=log, tolerance=tolerance, one=one, other=other)

    def test_the_samples(self):
        self.accept(LOG, 2, 2, 1)
        self.refuse(LOG, 2, 1, 2)
        self.refuse(TWO, 0, 1, 2)
        self.refuse(TWO, 0, 2, 1)

    def test_within_the_tolerance_and_one_less(self):
        # The first end of 2 is 8, the last begin of 1 is 12.
        self.accept(LOG, 3, 2, 1)
        self.refuse(LOG, 4, 2, 1)
        log = (("write", 1, 0, 5), ("write", 2, 6, 9))
        self.accept(log, 0, 1, 2)
        self.refuse(log, 1, 1, 2)
        self.refuse(log, 0, 2, 1)

    def test_by_a_value_between(self):
        self.accept(BETWEEN, 0, 1, 2)
        self.accept(BETWEEN, 0, 2, 3)
        self.accept(BETWEEN, 0, 1, 3)
        self.accept(BETWEEN[:1] + BETWEEN[2:], 0, 1, 2)
        self.refuse(BETWEEN[:2], 0, 1, 3)
        self.refuse(BETWEEN, 0, 3, 1)
        for one, other in ((1, 2), (2, 3), (1, 3)):
            self.refuse(BETWEEN, 1, one, other)

    def test_0_precedes_all_others(self):
        log = (("read", 0, 5, 6), ("write", 1, 0, 9), ("write", 2, -STAMP, 9))
        for tolerance in (0, GREATEST_TOLERANCE):
            for value in (1, 2):
                self.accept(log, tolerance, 0, value)
                self.refuse(log, tolerance, value, 0)
        self.accept(ZERO, 4, 0, 1)
        self.refuse(ZERO, 4, 1, 0)

    def test_a_value_does_not_precede_itself(self):
        for log, tolerance in ((LOG, 2), (ZERO, 4), (TWO, 0), (BETWEEN, 0)):
            for value in values_of(log):
                self.refuse(log, tolerance, value, value)
        self.refuse((("write", 1, 0, 0), ("read", 1, 99, 99)), 0, 1, 1)

    def test_full_logs(self):
        self.accept(writes(200), 0, 1, 2)
        self.accept(writes(200), 0, 1, 200)
        self.refuse(writes(200), 0, 200, 1)
        self.accept(writes(200), 198, 1, 200)
        self.refuse(writes(200), 199, 1, 200)

    def test_stamps_at_their_limits(self):
        log = (("write", 1, -STAMP, -STAMP), ("write", 2, STAMP, STAMP))
        self.accept(log, 2 * STAMP - 1, 1, 2)
        self.refuse(log, 2 * STAMP, 1, 2)
        self.refuse(log, GREATEST_TOLERANCE, 1, 2)

    def test_the_search_through_all_orders(self):
        for log, tolerance, explaining in searched_logs():
            for one in values_of(log):
                for other in values_of(log):
                    expected = one != other and all(
                        max(places_of(log, order, one)) < min(places_of(log, order, other)) for order in explaining)
                    found = must_precede(log, tolerance, one, other)
                    self.assertIs(found, expected, (log, tolerance, one, other))


class Positions(Checked):

    def check(self, log, tolerance, value, pair):
        found = self.result(positions, log=log, tolerance=tolerance, value=value)
        self.assertEqual(repr(found), repr(pair))

    def test_the_samples(self):
        self.check(TWO, 0, 0, (0, 0))
        self.check(TWO, 0, 1, (1, 2))
        self.check(TWO, 0, 2, (1, 2))
        self.check(LOG, 2, 1, (1, 1))
        self.check(LOG, 2, 2, (0, 0))
        self.check(LOG, 4, 1, (0, 1))
        self.check(LOG, 4, 2, (0, 1))
        self.check(ZERO, 4, 0, (0, 0))
        self.check(ZERO, 4, 1, (1, 1))
        self.check(EARLY, 3, 1, (0, 0))

    def test_values_count_and_not_operations(self):
        log = (("write", 1, 0, 9), ("read", 1, 0, 9), ("read", 1, 0, 9), ("write", 2, 0, 9), ("read", 2, 0, 9))
        self.check(log, 0, 1, (0, 1))
        self.check(log, 0, 2, (0, 1))

    def test_a_value_between(self):
        self.check(BETWEEN, 0, 1, (0, 0))
        self.check(BETWEEN, 0, 2, (1, 1))
        self.check(BETWEEN, 0, 3, (2, 2))
        self.check(BETWEEN, 1, 1, (0, 2))

    def test_0_is_the_first_one(self):
        log = (("read", 0, 0, 9), ("read", 0, 0, 9), ("write", 1, 0, 9), ("write", 2, 0, 9))
        self.check(log, 0, 0, (0, 0))
        self.check(log, 0, 1, (1, 2))
        self.check((("read", 0, 0, 9),), 0, 0, (0, 0))

    def test_full_logs(self):
        for value in (1, 2, 100, 200):
            self.check(writes(200), 0, value, (value - 1, value - 1))
            self.check(writes(200), 199, value, (0, 199))
            self.check(writes(200), GREATEST_TOLERANCE, value, (0, 199))
        # One less than what makes all free: only the two ends are bound.
        self.check(writes(200), 198, 1, (0, 198))
        self.check(writes(200), 198, 2, (0, 199))
        self.check(writes(200), 198, 200, (1, 199))
        self.check((("write", 7, 0, 0),) + LOST * 199, 0, 7, (0, 0))

    def test_the_search_through_all_orders(self):
        for log, tolerance, explaining in searched_logs():
            self.assertTrue(all(stand_together(log, order) for order in explaining))
            for value in values_of(log):
                found = sorted({position_of(log, order, value) for order in explaining})
                self.assertEqual(positions(log, tolerance, value), (found[0], found[-1]), (log, tolerance, value))
                self.assertEqual(found, list(range(found[0], found[-1] + 1)))


class OrderWith(Checked):

    def check(self, log, tolerance, value, position):
        order = self.result(order_with, log=log, tolerance=tolerance, value=value, position=position)
        self.assertIs(order.__class__, tuple)
        self.assertIs(explains(log, tolerance, order), True, (log, tolerance, value, position, order))
        self.assertEqual(position_of(log, order, value), position)

    def refuse(self, log, tolerance, value, position):
        self.raises(NoPosition, {"position": position}, order_with,
                    log=log, tolerance=tolerance, value=value, position=position)

    def check_all(self, log, tolerance, value):
        """Check the first and the last position, all between, and one beyond each."""
        least, greatest = positions(log, tolerance, value)
        for position in range(least, greatest + 1):
            self.check(log, tolerance, value, position)
        self.refuse(log, tolerance, value, least - 1)
        self.refuse(log, tolerance, value, greatest + 1)

    def test_the_samples(self):
        for log, tolerance in ((LOG, 2), (LOG, 4), (LOG, GREATEST_TOLERANCE), (TWO, 0), (ZERO, 4), (EARLY, 3),
                               (BETWEEN, 0), (BETWEEN, 1), (BETWEEN, 4)):
            for value in values_of(log):
                self.check_all(log, tolerance, value)

    def test_the_first_and_the_last_position_and_one_beyond_each(self):
        self.check(TWO, 0, 2, 1)
        self.check(TWO, 0, 2, 2)
        self.refuse(TWO, 0, 2, 0)
        self.refuse(TWO, 0, 2, 3)
        self.refuse(LOG, 2, 2, 1)
        self.refuse(LOG, 2, 2, -1)
        self.refuse(LOG, 2, 1, 0)

    def test_full_logs(self):
        for value in (1, 100, 200):
            self.check_all(writes(200), 0, value)
        for position in (0, 1, 50, 149, 150, 199):
            self.check(writes(200), GREATEST_TOLERANCE, 77, position)
        for position in (-1, 200):
            self.refuse(writes(200), GREATEST_TOLERANCE, 77, position)
        for value in (1, 50, 200):
            least, greatest = positions(writes(200), 20, value)
            for position in (least, least + 1, greatest - 1, greatest):
                self.check(writes(200), 20, value, position)
            self.refuse(writes(200), 20, value, least - 1)
            self.refuse(writes(200), 20, value, greatest + 1)

    def test_small_logs(self):
        for log, tolerance, explaining in searched_logs():
            for value in values_of(log):
                found = {position_of(log, order, value) for order in explaining}
                for position in range(-1, len(log) + 1):
                    if position in found:
                        order = order_with(log, tolerance, value, position)
                        self.assertIn(order, explaining, (log, tolerance, value, position))
                        self.assertEqual(position_of(log, order, value), position)
                    else:
                        with self.assertRaises(NoPosition) as held:
                            order_with(log, tolerance, value, position)
                        self.assertEqual(held.exception.position, position)

    def test_longer_logs(self):
        for log in settled_logs(53, 25, 40):
            least = least_tolerance(log)
            for tolerance in (least, least + 3):
                for value in values_of(log):
                    lowest, highest = positions(log, tolerance, value)
                    for position in {lowest, (lowest + highest) // 2, highest}:
                        order = order_with(log, tolerance, value, position)
                        self.assertTrue(explains(log, tolerance, order), (log, tolerance, value, position))
                        self.assertEqual(position_of(log, order, value), position)

    def test_any_value_as_the_position(self):
        for value in odd_values() + deepest_values() + [-1, 2, 10 ** 30, -10 ** 30]:
            self.refuse(LOG, 4, 1, value)
        # True and False stand where 1 and 0 are positions.
        self.check(LOG, 4, 1, 1)
        self.refuse(LOG, 4, 1, True)
        self.check(LOG, 4, 1, 0)
        self.refuse(LOG, 4, 1, False)

    def test_the_very_position_is_told(self):
        for position in ([1], {1: 1}, ("1",)):
            with self.assertRaises(NoPosition) as held:
                order_with(LOG, 4, 1, position)
            self.assertIs(held.exception.position, position)


class FinalValues(Checked):

    def check(self, log, tolerance, values):
        found = self.result(final_values, log=log, tolerance=tolerance)
        self.assertEqual(repr(found), repr(values))

    def test_the_samples(self):
        self.check(LOG, 2, (1,))
        self.check(LOG, 3, (1,))
        self.check(LOG, 4, (1, 2))
        self.check(TWO, 0, (1, 2))
        self.check(ZERO, 4, (1,))
        self.check(EARLY, 3, (1,))
        self.check(BETWEEN, 0, (3,))
        self.check(BETWEEN, 1, (1, 2, 3))

    def test_the_empty_log(self):
        for tolerance in (0, 1, GREATEST_TOLERANCE):
            self.check((), tolerance, (0,))

    def test_0_only_if_nothing_is_written(self):
        self.check((("read", 0, 5, 6),), 0, (0,))
        self.check((("read", 0, 5, 6),) * 200, 0, (0,))
        self.check((("read", 0, 5, 6), ("write", 1, 0, 9)), 0, (1,))
        self.check((("write", 1, 0, 9),), 0, (1,))

    def test_ascending(self):
        log = (("write", 9, 0, 9), ("write", 3, 0, 9), ("read", 9, 1, 8), ("write", 5, 2, 3), ("write", 1, 0, 0))
        self.check(log, 0, (3, 5, 9))

    def test_within_the_tolerance_and_one_less(self):
        log = (("write", 1, 0, 5), ("write", 2, 9, 9))
        self.check(log, 3, (2,))
        self.check(log, 4, (1, 2))

    def test_full_logs(self):
        self.check(writes(200), 0, (200,))
        self.check(tuple(reversed(writes(200))), 2, (198, 199, 200))
        self.check(writes(200), 198, tuple(range(2, 201)))
        self.check(writes(200), 199, tuple(range(1, 201)))

    def test_stamps_at_their_limits(self):
        log = (("write", 1, -STAMP, -STAMP), ("write", 2, STAMP, STAMP))
        self.check(log, 2 * STAMP - 1, (2,))
        self.check(log, 2 * STAMP, (1, 2))

    def test_the_search_through_all_orders(self):
        for log, tolerance, explaining in searched_logs():
            expected = sorted({final_value(log, order) for order in explaining})
            self.assertEqual(final_values(log, tolerance), tuple(expected), (log, tolerance))


class Errors(Checked):

    def wrong(self):
        return odd_values() + deepest_values() + [-1, 3, 12, 10 ** 30, -10 ** 30]

    def test_values_that_the_log_does_not_have(self):
        for log, tolerance in ((LOG, 2), (ZERO, 4), (EARLY, 3)):
            for value in self.wrong():
                told = {"value": value}
                self.raises(NoValue, told, positions, log=log, tolerance=tolerance, value=value)
                self.raises(NoValue, told, must_precede, log=log, tolerance=tolerance, one=value, other=1)
                self.raises(NoValue, told, must_precede, log=log, tolerance=tolerance, one=1, other=value)
                self.raises(NoValue, told, must_precede, log=log, tolerance=tolerance, one=value, other=[9])
                self.raises(NoValue, told, must_precede, log=log, tolerance=tolerance, one=value, other=value)
                self.raises(NoValue, told, order_with, log=log, tolerance=tolerance, value=value, position=0)

    def test_0_that_no_operation_has(self):
        for log, tolerance in ((LOG, 2), ((), 0)):
            self.raises(NoValue, {"value": 0}, positions, log=log, tolerance=tolerance, value=0)
            self.raises(NoValue, {"value": 0}, must_precede, log=log, tolerance=tolerance, one=0, other=1)
            self.raises(NoValue, {"value": 0}, order_with, log=log, tolerance=tolerance, value=0, position=0)
        self.raises(NoValue, {"value": 0}, must_precede, log=LOG, tolerance=2, one=1, other=0)

    def test_bools_where_the_integers_are_values(self):
        self.raises(NoValue, {"value": True}, positions, log=ZERO, tolerance=4, value=True)
        self.raises(NoValue, {"value": False}, positions, log=ZERO, tolerance=4, value=False)
        self.raises(NoValue, {"value": True}, must_precede, log=ZERO, tolerance=4, one=0, other=True)
        self.raises(NoValue, {"value": False}, must_precede, log=ZERO, tolerance=4, one=False, other=True)
        self.raises(NoValue, {"value": True}, order_with, log=ZERO, tolerance=4, value=True, position=1)

    def test_the_first_of_one_and_other(self):
        self.raises(NoValue, {"value": 8}, must_precede, log=LOG, tolerance=2, one=8, other=9)
        self.raises(NoValue, {"value": 9}, must_precede, log=LOG, tolerance=2, one=9, other=8)
        self.raises(NoValue, {"value": 9}, must_precede, log=LOG, tolerance=2, one=1, other=9)

    def test_the_value_is_told_ahead_of_the_position(self):
        for position in (-1, 0, 1, 9, None, True, [0]):
            self.raises(NoValue, {"value": 3}, order_with, log=LOG, tolerance=2, value=3, position=position)
            self.raises(NoValue, {"value": None}, order_with, log=(), tolerance=0, value=None, position=position)

    def test_unexplained_is_told_ahead_of_all(self):
        for log, tolerance, fault in ((LOG, 0, ("crossed", 1, 2, 2, 3)), (LOG, 1, ("crossed", 1, 2, 2, 3)),
                                      (ZERO, 3, ("late", 0, 1)), (EARLY + LOST, 0, ("unwritten", 2)),
                                      (EARLY + (("read", 0, 9, 9),), 2, ("early", 0, 1)),
                                      (LOST * 200, GREATEST_TOLERANCE, ("unwritten", 0))):
            told = {"fault": fault}
            self.raises(Unexplained, told, final_values, log=log, tolerance=tolerance)
            for value in (1, 7, 99, None, True, [1], -1):
                self.raises(Unexplained, told, positions, log=log, tolerance=tolerance, value=value)
                for other in (1, 2, value, None):
                    self.raises(Unexplained, told, must_precede, log=log, tolerance=tolerance, one=value, other=other)
                    self.raises(Unexplained, told, order_with,
                                log=log, tolerance=tolerance, value=value, position=other)

    def test_unexplained_for_small_logs(self):
        for log in mixed_logs(54, 200, 6):
            if not can_explain(log, 1):
                told = {"fault": list(faults(log, 1))[0]}
                self.raises(Unexplained, told, final_values, log=log, tolerance=1)
                self.raises(Unexplained, told, positions, log=log, tolerance=1, value=1)


if __name__ == "__main__":
    unittest.main()
