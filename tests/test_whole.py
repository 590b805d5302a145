"""Section 4: the guarantees (a) to (g) together, in small logs by a look over all orders, and at 200 operations."""

import unittest

from clockslack.aside import aside, fewest_aside, heights, shows_aside
from clockslack.choices import final_values, must_precede, order_with, positions
from clockslack.desk import Desk
from clockslack.faults import bound_of, faults, shows_fault
from clockslack.least import evidence, least_tolerance, shows_least, tight
from clockslack.logs import joined, moved, widened, without
from clockslack.operations import is_log
from clockslack.orders import can_explain, explains, moments, order_for, shows_moments
from clockslack.reads import must_return, readable
from clockslack.recorder import Recorder
from clockslack.texts import format_fault, format_log, format_order, parse_fault, parse_log
from clockslack.trades import tolerance_without, trade
from clockslack.trials import tried
from clockslack.values import values_of
from samples import EARLY, GREATEST_TOLERANCE, LOG, LOST, TWO, ZERO, writes
from search import (
    all_faults, final_value, fewest_of, least_of, left_of, leasts_without, orders_that_explain, places_of, position_of,
    readable_by_search, values_in, weight_of)
from small import Numbers, mixed_logs, settled_logs


def small_logs():
    return [LOG, ZERO, EARLY, LOST, TWO, ()] + list(mixed_logs(131, 120, 5)) + list(settled_logs(132, 60, 5))


def full_logs():
    """Make logs of 200 operations: with few and many values, and faults of every kind."""
    numbers = Numbers(133)
    for count, spread in ((3, 60), (30, 40), (90, 12), (90, 60), (150, 30)):
        log = [("write", value, 10 * value, 10 * value + numbers.below(12)) for value in range(1, count + 1)]
        while len(log) < 200:
            value = numbers.below(count + 1)
            begin = 10 * value + numbers.below(spread) - spread // 3
            log.insert(numbers.below(len(log) + 1), ("read", value, begin, begin + numbers.below(8)))
        yield tuple(log)
        log[numbers.below(200)] = ("read", count + 1, 5, 6)
        yield tuple(log)


class Small(unittest.TestCase):

    def test_a_and_f_orders_faults_and_moments(self):
        for log in small_logs():
            explained = False
            for tolerance in (0, 1, 2, 3, 5, 8, GREATEST_TOLERANCE):
                orders = orders_that_explain(log, tolerance)
                self.assertIs(can_explain(log, tolerance), len(orders) > 0)
                self.assertIs(len(all_faults(log, tolerance)) == 0, len(orders) > 0)
                self.assertFalse(explained and not orders)
                explained = len(orders) > 0
                if explained:
                    order = order_for(log, tolerance)
                    self.assertIn(order, orders)
                    for each in (order, orders[0], orders[-1]):
                        self.assertTrue(explains(log, tolerance, each))
                        self.assertTrue(shows_moments(log, tolerance, moments(log, tolerance, each)))

    def test_b_the_least_tolerance(self):
        for log in small_logs():
            least = least_of(log)
            self.assertEqual(least_tolerance(log), least)
            if least is not None:
                shown = evidence(log)
                for tolerance in range(least + 4):
                    self.assertIs(shows_least(log, tolerance, shown), tolerance == least)
                self.assertTrue(all(bound_of(log, fault) == least for fault in tight(log)))

    def test_c_and_d_choices_and_further_reads(self):
        for log in small_logs():
            for tolerance in (0, 2):
                orders = orders_that_explain(log, tolerance)
                if not orders:
                    continue
                for one in values_of(log):
                    found = sorted({position_of(log, order, one) for order in orders})
                    self.assertEqual(positions(log, tolerance, one), (found[0], found[-1]))
                    self.assertIn(order_with(log, tolerance, one, found[-1]), orders)
                    for other in values_of(log):
                        self.assertIs(must_precede(log, tolerance, one, other), one != other and all(
                            places_of(log, order, one) < places_of(log, order, other) for order in orders))
                self.assertEqual(list(final_values(log, tolerance)), sorted({final_value(log, o) for o in orders}))
                for begin, end in ((0, 0), (2, 5)):
                    found = readable(log, tolerance, begin, end)
                    self.assertEqual(list(found), readable_by_search(log, tolerance, begin, end))
                    self.assertEqual(must_return(log, tolerance, begin, end), found[0] if len(found) == 1 else None)

    def test_e_and_f_values_set_aside(self):
        for log in small_logs():
            pairs = leasts_without(log, least_of)
            for tolerance in (0, 1, 3):
                for by in ("values", "operations"):
                    values = aside(log, tolerance, by=by)
                    fewest = fewest_of(log, pairs, tolerance, by)
                    self.assertEqual([fewest_aside(log, tolerance, by=by), weight_of(log, values, by)], [fewest] * 2)
                    self.assertTrue(orders_that_explain(left_of(log, values), tolerance))
                    table = heights(log, tolerance, by=by)
                    for each, least in pairs:
                        suffices = least is not None and least <= tolerance and weight_of(log, each, by) == fewest
                        self.assertIs(shows_aside(log, tolerance, (each, table), by=by), suffices)
            whole = dict(pairs)[()]
            self.assertTrue(whole is None or all(least <= whole for _, least in pairs))
            for count in range(len(values_in(log)) + 1):
                expected = [least for values, least in pairs if len(values) <= count and least is not None]
                self.assertEqual(tolerance_without(log, count), min(expected, default=None))


class Full(unittest.TestCase):

    def test_they_are_logs_of_200_operations_of_every_kind(self):
        words = set()
        for log in full_logs():
            self.assertTrue(is_log(log))
            self.assertEqual(len(log), 200)
            words.update(fault[0] for fault in faults(log, 0))
        self.assertEqual(words, {"unwritten", "early", "crossed", "late"})

    def test_a_b_and_f(self):
        for log in full_logs():
            least = least_tolerance(log)
            first = next(iter(faults(log, GREATEST_TOLERANCE if least is None else least)), None)
            self.assertIs(first is None, least is not None)
            if least is None:
                self.assertTrue(shows_fault(log, GREATEST_TOLERANCE, first))
                continue
            self.assertGreater(least, 0)
            for tolerance in (least, least + 1, 2 * least, GREATEST_TOLERANCE):
                order = order_for(log, tolerance)
                self.assertTrue(explains(log, tolerance, order))
                self.assertTrue(shows_moments(log, tolerance, moments(log, tolerance, order)))
            self.assertTrue(shows_least(log, least, evidence(log)))
            self.assertFalse(shows_least(log, least + 1, evidence(log)))
            self.assertFalse(can_explain(log, least - 1))
            self.assertFalse(explains(log, least - 1, order_for(log, least)))

    def test_c_and_d(self):
        for log in full_logs():
            least = least_tolerance(log)
            if least is None:
                continue
            last = final_values(log, least)
            for value in values_of(log)[::29]:
                lowest, highest = positions(log, least, value)
                for position in (lowest, highest):
                    self.assertTrue(explains(log, least, order_with(log, least, value, position)))
                self.assertIs(value in last, highest == len(values_of(log)) - 1)
            # Behind all operations only the final values can be read.
            begin = max(end for _, _, _, end in log) + least + 1
            self.assertEqual(readable(log, least, begin, begin), last)
            self.assertEqual(must_return(log, least, begin, begin), last[0] if len(last) == 1 else None)

    def test_e(self):
        for log in full_logs():
            pairs = trade(log)
            self.assertEqual(pairs[-1], (fewest_aside(log, 0), 0))
            lost = tuple(log[fault[1]][1] for fault in faults(log, GREATEST_TOLERANCE))
            self.assertEqual(pairs[0], (len(set(lost)), least_tolerance(without(log, lost))))
            for count, tolerance in pairs[::9] + pairs[-1:]:
                for by in ("values", "operations"):
                    values = aside(log, tolerance, by=by)
                    fewest = fewest_aside(log, tolerance, by=by)
                    self.assertEqual(weight_of(log, values, by), fewest)
                    self.assertTrue(can_explain(without(log, values), tolerance))
                    self.assertTrue(shows_aside(log, tolerance, (values, heights(log, tolerance, by=by)), by=by))
                    if values:
                        self.assertFalse(shows_aside(
                            log, tolerance, (values[1:], heights(log, tolerance, by=by)), by=by))
                self.assertLessEqual(fewest_aside(log, tolerance), count)
                self.assertEqual(tolerance_without(log, count), tolerance)

    def test_g(self):
        for log in full_logs():
            recorder = Recorder.of(log[:-1], 3)
            getattr(recorder, log[-1][0])(*log[-1][1:])
            self.assertEqual(recorder, Recorder.of(log, 3))
            least = least_tolerance(log)
            self.assertEqual([recorder.least(), recorder.first_fault()], [least, next(iter(faults(log, 3)), None)])
            if least is not None:
                self.assertEqual(tried(recorder, lambda held: (held.allow(least), held(55, 60))[1]),
                                 readable(log, least, 55, 60))
            recorder.undo()
            self.assertEqual((recorder.log, recorder.tolerance, recorder.changes), (log[:-1], 3, 0))
            self.assertEqual(parse_log(format_log(log)), log)
            for fault in list(faults(log, 0))[:99]:
                self.assertEqual(parse_fault(format_fault(fault)), fault)

    def test_g_at_a_desk(self):
        for log in full_logs():
            desk = Desk()
            for line in format_log(log).split("\n"):
                desk.say(line)
            self.assertEqual(parse_log(desk.say("log").replace("; ", "\n")), log)
            least = least_tolerance(log)
            self.assertEqual(desk.say("least"), "none" if least is None else str(least))
            if least is not None:
                desk.say(f"allow {least}")
                order = desk.say("order")
                self.assertTrue(explains(log, least, tuple(int(word) for word in order.split(" "))))
                self.assertEqual(order, format_order(order_for(log, least)))
            for _ in range(200 if least is None else 201):
                desk.say("undo")
            self.assertEqual(desk.say("log"), "-")

    def test_other_logs(self):
        for log in full_logs():
            least = least_tolerance(log)
            self.assertEqual(least_tolerance(moved(log, -12345)), least)
            self.assertEqual(least_tolerance(widened(log, 2)), None if least is None else max(0, least - 4))
            self.assertEqual(joined(log[:70], (), log[70:]), log)

    def test_ascending_writes(self):
        log = writes(200)
        self.assertEqual([least_tolerance(log), fewest_aside(log, 0), trade(log)], [0, 0, ((0, 0),)])
        self.assertEqual(readable(log, 0, 50, 52), (50, 51, 52, 53))


if __name__ == "__main__":
    unittest.main()
