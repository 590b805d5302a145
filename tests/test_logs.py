"""Sections 4 (f) and 14: other logs, made from given ones."""

import unittest

from clockslack.errors import BadLog
from clockslack.least import least_tolerance
from clockslack.logs import joined, moved, widened, without
from clockslack.operations import is_log
from clockslack.orders import can_explain
from clockslack.values import values_of
from checks import Checked
from samples import EARLY, GREATEST_TOLERANCE, LOG, LOST, STAMP, TWO, ZERO, writes
from search import sets_of_values
from small import mixed_logs, settled_logs

AMOUNT = 10 ** 16


class Examples(Checked):

    def test_section_14(self):
        self.assertEqual(
            [moved(ZERO, -1), widened(EARLY, 1), without(LOG, (1, 9)), joined(LOST, (), LOST)],
            [(("write", 1, -1, 0), ("read", 0, 4, 5)), (("read", 1, -1, 3), ("write", 1, 4, 7)),
             (("write", 2, 6, 8),), (("read", 7, 0, 1), ("read", 7, 0, 1))])

    def test_section_14_bad_log(self):
        with self.assertRaises(BadLog) as held:
            joined(ZERO[:1], ZERO[:1])
        self.assertEqual(held.exception.value, (("write", 1, 0, 1), ("write", 1, 0, 1)))


class Made(Checked):

    def check(self, found, function, **arguments):
        self.assertTrue(is_log(found))
        self.assertEqual(repr(self.result(function, **arguments)), repr(found))

    def refuse(self, found, function, **arguments):
        self.assertFalse(is_log(found))
        self.raises(BadLog, {"value": found}, function, **arguments)


class Moved(Made):

    def test_all_stamps(self):
        self.check((("write", 1, 7, 12), ("write", 2, 10, 15), ("read", 0, 8, 9)), moved, log=TWO, amount=7)
        self.check((("write", 1, -7, -2), ("write", 2, -4, 1), ("read", 0, -6, -5)), moved, log=TWO, amount=-7)

    def test_by_0(self):
        for log in (LOG, ZERO, EARLY, LOST, (), writes(200)):
            self.check(log, moved, log=log, amount=0)

    def test_the_empty_log_by_any_amount(self):
        for amount in (-AMOUNT, -1, 1, AMOUNT):
            self.check((), moved, log=(), amount=amount)

    def test_up_to_the_limits_and_beyond(self):
        self.check((("read", 7, STAMP - 1, STAMP),), moved, log=LOST, amount=STAMP - 1)
        self.refuse((("read", 7, STAMP, STAMP + 1),), moved, log=LOST, amount=STAMP)
        self.check((("read", 7, -STAMP, 1 - STAMP),), moved, log=LOST, amount=-STAMP)
        self.refuse((("read", 7, -STAMP - 1, -STAMP),), moved, log=LOST, amount=-STAMP - 1)
        for amount in (AMOUNT, -AMOUNT):
            self.refuse((("read", 7, amount, amount + 1),), moved, log=LOST, amount=amount)

    def test_from_one_limit_to_the_other(self):
        low, high = (("write", 1, -STAMP, -STAMP),), (("write", 1, STAMP, STAMP),)
        self.check(high, moved, log=low, amount=2 * STAMP)
        self.check(low, moved, log=high, amount=-2 * STAMP)
        self.refuse((("write", 1, -STAMP, -STAMP), ("write", 2, -STAMP - 1, 3)), moved,
                    log=(("write", 1, 0, 0), ("write", 2, -1, STAMP + 3)), amount=-STAMP)

    def test_one_operation_beyond_is_enough(self):
        log = writes(200)
        self.check(tuple(("write", number + 1, number + STAMP - 199, number + STAMP - 199) for number in range(200)),
                   moved, log=log, amount=STAMP - 199)
        self.refuse(tuple(("write", number + 1, number + STAMP - 198, number + STAMP - 198) for number in range(200)),
                    moved, log=log, amount=STAMP - 198)

    def test_the_least_tolerance_stays(self):
        for log in [LOG, ZERO, EARLY, LOST, TWO] + list(mixed_logs(71, 60, 12)):
            for amount in (-AMOUNT // 20, -3, 1, 12345):
                self.assertEqual(least_tolerance(moved(log, amount)), least_tolerance(log))


class Widened(Made):

    def test_begins_and_ends(self):
        self.check((("write", 1, -7, 12), ("write", 2, -4, 15), ("read", 0, -6, 9)), widened, log=TWO, amount=7)

    def test_by_0(self):
        for log in (LOG, ZERO, EARLY, LOST, (), writes(200)):
            self.check(log, widened, log=log, amount=0)

    def test_the_empty_log_by_any_amount(self):
        for amount in (1, AMOUNT):
            self.check((), widened, log=(), amount=amount)

    def test_up_to_the_limits_and_beyond(self):
        self.check((("read", 7, 1 - STAMP, STAMP),), widened, log=LOST, amount=STAMP - 1)
        self.refuse((("read", 7, -STAMP, STAMP + 1),), widened, log=LOST, amount=STAMP)
        log = (("read", 7, -1, 0),)
        self.check((("read", 7, -STAMP, STAMP - 1),), widened, log=log, amount=STAMP - 1)
        self.refuse((("read", 7, -STAMP - 1, STAMP),), widened, log=log, amount=STAMP)
        self.refuse((("read", 7, -AMOUNT, AMOUNT + 1),), widened, log=LOST, amount=AMOUNT)

    def test_one_operation_beyond_is_enough(self):
        log = LOG + (("write", 9, STAMP, STAMP),)
        self.refuse(tuple((kind, value, begin - 1, end + 1) for kind, value, begin, end in log),
                    widened, log=log, amount=1)

    def test_the_least_tolerance_becomes_less_by_twice_the_amount(self):
        for log in [LOG, ZERO, EARLY, LOST, TWO] + list(mixed_logs(72, 60, 12)):
            least = least_tolerance(log)
            for amount in (0, 1, 2, 3, 40):
                expected = None if least is None else max(0, least - 2 * amount)
                self.assertEqual(least_tolerance(widened(log, amount)), expected)


class Without(Made):

    def test_the_operations_of_these_values(self):
        self.check((("write", 2, 6, 8),), without, log=LOG, values=(1,))
        self.check(LOG[:2] + LOG[3:], without, log=LOG, values=(2,))
        self.check((), without, log=LOG, values=(1, 2))
        self.check((), without, log=LOG, values=(2, 1))
        self.check((("write", 1, 0, 1),), without, log=ZERO, values=(0,))
        self.check((), without, log=LOST * 200, values=(7,))

    def test_values_that_the_log_does_not_have(self):
        for values in ((), (0,), (3,), (-1, 10 ** 30, 12)):
            self.check(LOG, without, log=LOG, values=values)
        # Stamps and indexes are no values.
        self.check(LOG, without, log=LOG, values=(0, 4, 6, 8, 10, 12, 14))
        self.check((), without, log=(), values=(1, 2))

    def test_a_value_more_than_once(self):
        self.check((("write", 2, 6, 8),), without, log=LOG, values=(1, 1, 9, 1))

    def test_the_sequence_stays(self):
        log = tuple(reversed(writes(200)))
        self.check(log[::2], without, log=log, values=tuple(range(1, 200, 2)))

    def test_what_could_be_explained_still_can(self):
        for log in list(settled_logs(73, 40, 9)) + list(mixed_logs(74, 60, 7)):
            least = least_tolerance(log)
            if least is not None:
                for values in sets_of_values(log):
                    rest = without(log, values)
                    self.assertEqual(values_of(rest), tuple(v for v in values_of(log) if v not in values))
                    for tolerance in (least, least + 1, GREATEST_TOLERANCE):
                        self.assertTrue(can_explain(rest, tolerance))


class Joined(Checked):

    def check(self, logs, found):
        before = repr(logs)
        self.assertTrue(is_log(found))
        for _ in range(2):
            self.assertEqual(repr(joined(*logs)), repr(found))
        self.assertEqual(repr(logs), before)

    def refuse(self, logs):
        found = sum(logs, ())
        self.assertFalse(is_log(found))
        with self.assertRaises(BadLog) as held:
            joined(*logs)
        self.assertIs(held.exception.__class__, BadLog)
        self.assertEqual(repr(vars(held.exception)), repr({"value": found}))

    def test_no_logs_and_empty_ones(self):
        self.check([], ())
        self.check([()], ())
        self.check([(), (), ()], ())

    def test_one_log(self):
        for log in (LOG, ZERO, LOST, writes(200)):
            self.check([log], log)
            self.check([(), log, ()], log)

    def test_one_after_the_other(self):
        self.check([LOST, LOG], LOST + LOG)
        self.check([LOG, LOST], LOG + LOST)
        self.check([LOG, LOST, (), LOST, (("read", 0, 9, 9),)], LOG + LOST + LOST + (("read", 0, 9, 9),))

    def test_values_that_are_written_twice_once_joined(self):
        self.refuse([LOG, ZERO])
        self.refuse([ZERO, LOG])
        self.refuse([TWO, LOST, TWO])
        self.refuse([LOG[:1], LOST, (("write", 1, 7, 9),)])
        # Reads may have the same value, and equal ones may be there.
        self.check([LOG, EARLY[:1], EARLY[:1]], LOG + EARLY[:1] + EARLY[:1])

    def test_200_operations_together_and_201(self):
        self.check([writes(200)], writes(200))
        self.check([LOST * 100, LOST * 100], LOST * 200)
        self.check([LOST] * 200, LOST * 200)
        self.check([writes(120), LOST * 80], writes(120) + LOST * 80)
        self.refuse([LOST * 100, LOST * 101])
        self.refuse([LOST] * 201)
        self.refuse([writes(200), LOST])
        self.refuse([LOST * 200, LOST * 200])


if __name__ == "__main__":
    unittest.main()
