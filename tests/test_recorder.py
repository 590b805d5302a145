"""Sections 4 (g) and 15: the recorder."""

import copy
import unittest

from clockslack.errors import (
    BadLog, BadOperation, BadStamps, BadTolerance, CellError, NoIndex, NothingToUndo, TooMany, Unexplained, Written)
from clockslack.faults import faults
from clockslack.least import least_tolerance
from clockslack.logs import joined
from clockslack.operations import is_log, is_operation, is_tolerance
from clockslack.reads import readable
from clockslack.recorder import Recorder
from clockslack.trials import tried
from clockslack.values import values_of
from checks import Checked
from samples import (
    EARLY, GREATEST_TOLERANCE, LOG, LOST, STAMP, TWO, ZERO, deepest_values, odd_values, writes)
from small import Numbers, mixed_logs, settled_logs

WRONG_TOLERANCES = [-1, GREATEST_TOLERANCE + 1, 10 ** 30, -10 ** 30]


def all_odd_values():
    return odd_values() + deepest_values()


class Recorded(Checked):

    def check(self, recorder, log, tolerance, changes):
        """Check all that can be asked of a recorder, by the functions for its log and tolerance."""
        self.assertEqual(repr((recorder.log, recorder.tolerance, recorder.changes)), repr((log, tolerance, changes)))
        self.assertEqual(len(recorder), len(log))
        self.assertEqual(recorder.first_fault(), next(iter(faults(log, tolerance)), None))
        self.assertEqual(repr(recorder.least()), repr(least_tolerance(log)))
        self.assertEqual([recorder[index] for index in range(len(log))], list(log))
        for value in range(-1, 12):
            self.assertIs(value in recorder, value in values_of(log))
        for begin, end in ((0, 0), (-5, 50), (6, 7), (7, 6)):
            self.assertEqual(self.outcome(lambda: recorder(begin, end)),
                             self.outcome(lambda: readable(log, tolerance, begin, end)))

    def outcome(self, call):
        try:
            return call()
        except CellError as error:
            return error.__class__, vars(error)

    def refuse(self, recorder, error, told, function, **arguments):
        """Check that a method raises this error and changes nothing, and leaves nothing to undo."""
        before = repr((recorder.log, recorder.tolerance, recorder.changes))
        self.raises(error, told, function, **arguments)
        self.assertEqual(repr((recorder.log, recorder.tolerance, recorder.changes)), before)


class Examples(Recorded):

    def test_section_15(self):
        recorder = Recorder.of(LOG[:3])
        self.assertEqual(
            [recorder.first_fault(), recorder.read(1, 12, 14), recorder.first_fault(), recorder.least(),
             recorder.allow(2), recorder(20, 21), len(recorder), 2 in recorder, recorder[1]],
            [None, 3, ("crossed", 1, 2, 2, 3), 2, None, (1,), 4, True, ("read", 1, 2, 4)])
        self.assertEqual(
            [tried(recorder, lambda held: held.write(5, 0, 0)), recorder.changes, recorder.undo(), recorder.undo(),
             recorder.log == LOG[:3], recorder.tolerance, (recorder + Recorder(7)).tolerance],
            [4, 2, None, None, True, 0, 7])
        self.refuse(recorder, Written, {"value": 2}, recorder.write, value=2, begin=0, end=1)


class Made(Recorded):

    def test_with_a_tolerance(self):
        self.check(Recorder(), (), 0, 0)
        for tolerance in (0, 1, 7, GREATEST_TOLERANCE):
            self.check(Recorder(tolerance), (), tolerance, 0)
            self.check(Recorder(tolerance=tolerance), (), tolerance, 0)

    def test_with_a_wrong_tolerance(self):
        for value in all_odd_values() + WRONG_TOLERANCES:
            self.assertFalse(is_tolerance(value))
            self.raises(BadTolerance, {"value": value}, Recorder, tolerance=value)

    def test_of_a_log(self):
        for log in (LOG, ZERO, EARLY, LOST, (), writes(200), LOST * 200):
            self.check(Recorder.of(log), log, 0, 0)
            self.check(Recorder.of(log=log), log, 0, 0)
            for tolerance in (0, 3, GREATEST_TOLERANCE):
                self.check(Recorder.of(log, tolerance), log, tolerance, 0)
                self.check(Recorder.of(tolerance=tolerance, log=log), log, tolerance, 0)

    def test_of_a_wrong_log(self):
        for value in all_odd_values() + [0, LOG[0], LOG + LOG, LOST * 201, list(LOG), tuple(map(list, LOG)),
                                         LOG + (("write", 0, 1, 2),), (("write", 3, True, 2),)]:
            if not is_log(value):
                self.raises(BadLog, {"value": value}, Recorder.of, log=value)
                self.raises(BadLog, {"value": value}, Recorder.of, log=value, tolerance=5)

    def test_of_a_log_with_a_wrong_tolerance(self):
        for value in all_odd_values() + WRONG_TOLERANCES:
            self.raises(BadTolerance, {"value": value}, Recorder.of, log=LOG, tolerance=value)

    def test_of_a_wrong_log_and_a_wrong_tolerance_at_once(self):
        for value in (None, list(LOG), LOG + LOG):
            for tolerance in (-1, True, None, []):
                self.raises(BadLog, {"value": value}, Recorder.of, log=value, tolerance=tolerance)

    def test_most(self):
        self.assertEqual(Recorder.MOST, 200)
        self.assertEqual(Recorder(3).MOST, 200)
        self.assertTrue(is_log(LOST * Recorder.MOST))
        self.assertFalse(is_log(LOST * (Recorder.MOST + 1)))

    def test_nothing_to_undo(self):
        for recorder in (Recorder(), Recorder(5), Recorder.of(LOG), Recorder.of(LOG, 2), Recorder() + Recorder()):
            self.refuse(recorder, NothingToUndo, {}, recorder.undo)


class Properties(Recorded):

    def test_they_are_read_only(self):
        recorder = Recorder.of(LOG, 2)
        for name, value in (("log", ()), ("tolerance", 0), ("changes", 0)):
            with self.assertRaises(AttributeError):
                setattr(recorder, name, value)
            with self.assertRaises(AttributeError):
                delattr(recorder, name)
        self.check(recorder, LOG, 2, 0)

    def test_the_log_is_a_tuple(self):
        recorder = Recorder()
        before = recorder.log
        recorder.write(1, 0, 1)
        self.assertEqual(before, ())
        self.assertIs(recorder.log.__class__, tuple)
        self.assertIs(recorder.log[0].__class__, tuple)


class Appends(Recorded):

    def test_write_and_read_return_the_index(self):
        recorder = Recorder()
        self.assertEqual([recorder.write(1, 0, 10), recorder.read(1, 2, 4), recorder.write(2, 6, 8),
                          recorder.read(1, 12, 14)], [0, 1, 2, 3])
        self.check(recorder, LOG, 0, 4)
        self.assertEqual([recorder.read(begin=0, end=9, value=0), recorder.write(end=3, value=9, begin=-3)], [4, 5])
        self.check(recorder, LOG + (("read", 0, 0, 9), ("write", 9, -3, 3)), 0, 6)

    def test_the_limits_of_values_and_stamps(self):
        recorder = Recorder(4)
        recorder.write(1, -STAMP, -STAMP)
        recorder.write(10 ** 9, -STAMP, STAMP)
        recorder.read(0, STAMP, STAMP)
        recorder.read(10 ** 9, 5, 5)
        self.check(recorder, (("write", 1, -STAMP, -STAMP), ("write", 10 ** 9, -STAMP, STAMP),
                              ("read", 0, STAMP, STAMP), ("read", 10 ** 9, 5, 5)), 4, 4)

    def test_what_is_no_operation(self):
        recorder = Recorder.of(LOG, 2)
        recorder.allow(3)
        wrong = [(value, 0, 1) for value in all_odd_values() + [-1, 10 ** 9 + 1, 10 ** 30]]
        wrong += [(5, value, 10 ** 15) for value in all_odd_values() + [STAMP + 1, -STAMP - 1]]
        wrong += [(5, -10 ** 15, value) for value in all_odd_values() + [STAMP + 1, -STAMP - 1]]
        wrong += [(5, 2, 1), (5, STAMP, -STAMP), (None, None, None), (True, False, True), ((), [], {})]
        for kind, method in (("write", recorder.write), ("read", recorder.read)):
            for value, begin, end in wrong:
                operation = (kind, value, begin, end)
                self.assertFalse(is_operation(operation))
                self.refuse(recorder, BadOperation, {"operation": operation}, method,
                            value=value, begin=begin, end=end)

    def test_0_is_read_and_not_written(self):
        recorder = Recorder()
        self.refuse(recorder, BadOperation, {"operation": ("write", 0, 0, 1)}, recorder.write,
                    value=0, begin=0, end=1)
        self.assertEqual(recorder.read(0, 0, 1), 0)

    def test_the_very_values_are_told(self):
        value = [1]
        with self.assertRaises(BadOperation) as held:
            Recorder().read(value, 0, 1)
        self.assertIs(held.exception.operation[1], value)

    def test_values_that_are_written_already(self):
        recorder = Recorder.of(LOG)
        for value in (1, 2):
            for begin, end in ((0, 1), (-STAMP, STAMP), (6, 8)):
                self.refuse(recorder, Written, {"value": value}, recorder.write, value=value, begin=begin, end=end)
        # A value that is only read, or was written and undone, can be written.
        self.assertEqual(recorder.read(7, 0, 1), 4)
        self.assertEqual(recorder.write(7, 0, 1), 5)
        self.refuse(recorder, Written, {"value": 7}, recorder.write, value=7, begin=0, end=1)
        recorder.undo()
        self.assertEqual(recorder.write(7, 3, 4), 5)
        self.check(recorder, LOG + (("read", 7, 0, 1), ("write", 7, 3, 4)), 0, 2)

    def test_200_operations_and_one_more(self):
        recorder = Recorder.of(writes(199), 5)
        self.assertEqual(recorder.read(7, 0, 1), 199)
        self.check(recorder, writes(199) + (("read", 7, 0, 1),), 5, 1)
        self.refuse(recorder, TooMany, {"limit": 200}, recorder.read, value=0, begin=0, end=1)
        self.refuse(recorder, TooMany, {"limit": 200}, recorder.write, value=900, begin=0, end=1)
        recorder.undo()
        self.assertEqual(recorder.write(900, 0, 1), 199)
        self.refuse(recorder, TooMany, {"limit": 200}, recorder.read, value=900, begin=0, end=1)
        # The tolerance can be replaced all the same.
        recorder.allow(6)
        self.check(recorder, writes(199) + (("write", 900, 0, 1),), 6, 2)

    def test_200_operations_one_by_one(self):
        recorder = Recorder()
        for number in range(200):
            index = recorder.write(number + 1, number, number) if number % 2 == 0 else recorder.read(0, number, number)
            self.assertEqual((index, len(recorder), recorder.changes), (number, number + 1, number + 1))
        self.refuse(recorder, TooMany, {"limit": 200}, recorder.write, value=2, begin=0, end=1)
        for number in range(200):
            recorder.undo()
        self.check(recorder, (), 0, 0)

    def test_which_error_is_raised_when_several_apply(self):
        full = Recorder.of(writes(200))
        self.refuse(full, BadOperation, {"operation": ("write", 1, 5, 4)}, full.write, value=1, begin=5, end=4)
        self.refuse(full, BadOperation, {"operation": ("read", 1, 5, 4)}, full.read, value=1, begin=5, end=4)
        self.refuse(full, Written, {"value": 1}, full.write, value=1, begin=0, end=0)
        self.refuse(full, TooMany, {"limit": 200}, full.write, value=201, begin=0, end=0)
        self.refuse(full, TooMany, {"limit": 200}, full.read, value=1, begin=0, end=0)
        some = Recorder.of(LOG)
        self.refuse(some, BadOperation, {"operation": ("write", 1, 0, True)}, some.write, value=1, begin=0, end=True)
        self.refuse(some, BadOperation, {"operation": ("write", True, 0, 1)}, some.write, value=True, begin=0, end=1)


class Allow(Recorded):

    def test_it_replaces_the_tolerance(self):
        recorder = Recorder.of(LOG)
        for count, tolerance in enumerate((2, 0, GREATEST_TOLERANCE, 1, 1)):
            self.assertIsNone(recorder.allow(tolerance))
            self.check(recorder, LOG, tolerance, count + 1)
        self.assertIsNone(recorder.allow(tolerance=9))
        self.check(recorder, LOG, 9, 6)

    def test_wrong_tolerances(self):
        recorder = Recorder.of(LOG, 2)
        for value in all_odd_values() + WRONG_TOLERANCES:
            self.refuse(recorder, BadTolerance, {"value": value}, recorder.allow, tolerance=value)
        self.check(recorder, LOG, 2, 0)


class Undo(Recorded):

    def test_each_kind_of_change(self):
        recorder = Recorder.of(ZERO, 4)
        recorder.write(5, 7, 9)
        recorder.allow(6)
        recorder.read(5, 8, 8)
        self.check(recorder, ZERO + (("write", 5, 7, 9), ("read", 5, 8, 8)), 6, 3)
        self.assertIsNone(recorder.undo())
        self.check(recorder, ZERO + (("write", 5, 7, 9),), 6, 2)
        recorder.undo()
        self.check(recorder, ZERO + (("write", 5, 7, 9),), 4, 1)
        recorder.undo()
        self.check(recorder, ZERO, 4, 0)
        self.refuse(recorder, NothingToUndo, {}, recorder.undo)

    def test_calls_that_made_nothing_different(self):
        recorder = Recorder(3)
        for count in range(1, 4):
            recorder.allow(3)
            self.check(recorder, (), 3, count)
        recorder.allow(4)
        for count in (3, 2, 1, 0):
            recorder.undo()
            self.check(recorder, (), 3, count)
        self.refuse(recorder, NothingToUndo, {}, recorder.undo)

    def test_what_was_undone_is_not_undone_once_more(self):
        recorder = Recorder()
        recorder.write(1, 0, 0)
        recorder.write(2, 1, 1)
        recorder.undo()
        recorder.write(3, 2, 2)
        self.check(recorder, (("write", 1, 0, 0), ("write", 3, 2, 2)), 0, 2)
        recorder.undo()
        recorder.undo()
        self.check(recorder, (), 0, 0)

    def test_a_call_that_raised_is_not_undone(self):
        recorder = Recorder()
        recorder.write(1, 0, 0)
        for call in (lambda: recorder.write(1, 0, 0), lambda: recorder.read(1, 2, 1), lambda: recorder.allow(-1),
                     lambda: recorder[9], lambda: recorder(1, 0)):
            with self.assertRaises(CellError):
                call()
        self.check(recorder, (("write", 1, 0, 0),), 0, 1)
        recorder.undo()
        self.check(recorder, (), 0, 0)

    def test_questions_are_not_undone(self):
        recorder = Recorder.of(LOG, 2)
        recorder.allow(3)
        self.check(recorder, LOG, 3, 1)
        recorder.undo()
        self.check(recorder, LOG, 2, 0)

    def test_many_changes(self):
        recorder = Recorder()
        for tolerance in range(3000):
            recorder.allow(tolerance)
        self.assertEqual((recorder.tolerance, recorder.changes), (2999, 3000))
        for _ in range(2990):
            recorder.undo()
        self.check(recorder, (), 9, 10)


class Answers(Recorded):

    def test_first_fault(self):
        for log, fault in ((LOG, ("crossed", 1, 2, 2, 3)), (ZERO, ("late", 0, 1)), (EARLY, ("early", 0, 1)),
                           (LOST, ("unwritten", 0)), (EARLY + LOST, ("unwritten", 2)), (TWO, None), ((), None)):
            self.assertEqual(Recorder.of(log).first_fault(), fault)
        self.assertEqual(Recorder.of(LOG, 1).first_fault(), ("crossed", 1, 2, 2, 3))
        self.assertIsNone(Recorder.of(LOG, 2).first_fault())

    def test_least(self):
        for log, least in ((LOG, 2), (ZERO, 4), (EARLY, 3), (LOST, None), (TWO, 0), ((), 0)):
            for tolerance in (0, 3, GREATEST_TOLERANCE):
                self.assertEqual(repr(Recorder.of(log, tolerance).least()), repr(least))

    def test_index(self):
        recorder = Recorder.of(LOG)
        self.assertEqual([recorder[index] for index in (0, 1, 2, 3)], list(LOG))
        for value in all_odd_values() + [-1, -4, 4, 200, 10 ** 30, -10 ** 30]:
            self.refuse(recorder, NoIndex, {"index": value}, recorder.__getitem__, at=value)
        for value in (0, -1, None):
            self.refuse(Recorder(), NoIndex, {"index": value}, Recorder().__getitem__, at=value)
        full = Recorder.of(writes(200))
        self.assertEqual(full[199], ("write", 200, 199, 199))
        self.refuse(full, NoIndex, {"index": 200}, full.__getitem__, at=200)

    def test_contains(self):
        recorder = Recorder.of(ZERO + LOST)
        for value in (0, 1, 7):
            self.assertIs(value in recorder, True)
            self.assertIs(value not in recorder, False)
        for value in all_odd_values() + [-1, 2, 5, 6, 10 ** 30]:
            self.assertIs(value in recorder, False)
            self.assertIs(value in Recorder(), False)
        self.assertIs(0 in Recorder.of(LOG), False)

    def test_length(self):
        for log in ((), LOST, LOG, writes(200)):
            self.assertEqual(len(Recorder.of(log, 5)), len(log))

    def test_it_is_not_iterated_over(self):
        with self.assertRaises(TypeError):
            list(Recorder.of(LOG))

    def test_call(self):
        for log, tolerance in ((LOG, 2), (LOG, 4), (TWO, 0), ((), 0), (writes(200), 3)):
            recorder = Recorder.of(log, tolerance)
            for begin, end in ((20, 21), (5, 9), (0, 0), (-STAMP, STAMP)):
                expected = readable(log, tolerance, begin, end)
                self.assertEqual(self.result(recorder, begin=begin, end=end), expected)
        self.assertEqual(Recorder.of(LOG, 2)(end=9, begin=5), (0, 1, 2))

    def test_call_raises_the_same(self):
        for begin, end in ((0, 1), (1, 0), (None, None)):
            recorder = Recorder.of(LOG, 1)
            self.refuse(recorder, Unexplained, {"fault": ("crossed", 1, 2, 2, 3)}, recorder, begin=begin, end=end)
        recorder = Recorder.of(LOG, 2)
        for value in all_odd_values() + [STAMP + 1, -STAMP - 1]:
            self.refuse(recorder, BadStamps, {"begin": value, "end": -5}, recorder, begin=value, end=-5)
            self.refuse(recorder, BadStamps, {"begin": 5, "end": value}, recorder, begin=5, end=value)

    def test_behind_any_sequence_of_calls_and_undos(self):
        numbers = Numbers(101)
        for log in list(mixed_logs(102, 12, 6)) + list(settled_logs(103, 12, 9)):
            tolerance = numbers.below(5)
            recorder = Recorder.of(log, tolerance)
            states = [(log, tolerance)]
            for _ in range(25):
                self.step(numbers, recorder, states)
                self.check(recorder, *states[-1], len(states) - 1)
            while len(states) > 1:
                recorder.undo()
                states.pop()
                self.check(recorder, *states[-1], len(states) - 1)

    def step(self, numbers, recorder, states):
        """Make a change, or undo one, or try what raises: in a recorder, and in the list of its states."""
        log, tolerance = states[-1]
        choice, value, begin = numbers.below(8), numbers.below(9), numbers.below(12) - 2
        end = begin + numbers.below(5) - 1
        if choice == 0:
            recorder.allow(value)
            states.append((log, value))
        elif choice == 1 and len(states) > 1:
            recorder.undo()
            states.pop()
        elif choice < 5:
            operation = ("read", value, begin, end)
            if is_operation(operation):
                self.assertEqual(recorder.read(value, begin, end), len(log))
                states.append((log + (operation,), tolerance))
            else:
                self.refuse(recorder, BadOperation, {"operation": operation}, recorder.read,
                            value=value, begin=begin, end=end)
        else:
            longer = log + (("write", value, begin, end),)
            if is_log(longer):
                self.assertEqual(recorder.write(value, begin, end), len(log))
                states.append((longer, tolerance))
            else:
                with self.assertRaises((BadOperation, Written)):
                    recorder.write(value, begin, end)


class Sums(Recorded):

    def check_sum(self, one, other):
        states = [(held.log, held.tolerance, held.changes) for held in (one, other)]
        found = one + other
        self.assertIs(found.__class__, Recorder)
        self.check(found, joined(one.log, other.log), max(one.tolerance, other.tolerance), 0)
        # It is a recorder of its own.
        found.read(0, 0, 0)
        found.allow(8)
        self.assertEqual([(held.log, held.tolerance, held.changes) for held in (one, other)], states)
        self.assertEqual((found.log, found.changes), (joined(one.log, other.log) + (("read", 0, 0, 0),), 2))

    def test_logs_and_tolerances(self):
        self.check_sum(Recorder.of(LOG, 2), Recorder.of(LOST, 5))
        self.check_sum(Recorder.of(LOST, 5), Recorder.of(LOG, 2))
        self.check_sum(Recorder.of(ZERO, 3), Recorder())
        self.check_sum(Recorder(7), Recorder.of(ZERO, 3))
        self.check_sum(Recorder(), Recorder())
        self.check_sum(Recorder.of(LOST, GREATEST_TOLERANCE), Recorder.of(LOST, 0))
        self.check_sum(Recorder.of(LOST * 100), Recorder.of(LOST * 99))

    def test_with_itself(self):
        recorder = Recorder.of(LOST, 3)
        self.check_sum(recorder, recorder)

    def test_nothing_to_undo(self):
        one, other = Recorder(), Recorder()
        one.write(1, 0, 0)
        other.write(2, 0, 0)
        other.allow(4)
        self.check_sum(one, other)

    def test_a_result_that_is_no_log(self):
        for one, other in ((LOG, ZERO), (LOST * 101, LOST * 100), (writes(200), LOST), (ZERO[:1], ZERO[:1])):
            left, right = Recorder.of(one, 2), Recorder.of(other, 3)
            left.allow(1)
            for _ in range(2):
                with self.assertRaises(BadLog) as held:
                    left + right
                self.assertIs(held.exception.__class__, BadLog)
                self.assertEqual(repr(vars(held.exception)), repr({"value": one + other}))
            self.assertEqual((left.log, left.tolerance, left.changes), (one, 1, 1))
            self.assertEqual((right.log, right.tolerance, right.changes), (other, 3, 0))

    def test_200_operations_together(self):
        found = Recorder.of(LOST * 100, 1) + Recorder.of(LOST * 100)
        self.assertEqual((found.log, found.tolerance), (LOST * 200, 1))

    def test_with_what_is_no_recorder(self):
        for value in (None, (), LOG, 1, "log"):
            with self.assertRaises(TypeError):
                Recorder() + value
            with self.assertRaises(TypeError):
                value + Recorder()

    def test_in_place(self):
        recorder = first = Recorder.of(LOG, 2)
        recorder += Recorder.of(LOST)
        self.check(recorder, LOG + LOST, 2, 0)
        self.check(first, LOG, 2, 0)


class Copies(Recorded):

    def test_the_same_state_with_the_same_changes_to_undo(self):
        recorder = Recorder.of(ZERO, 4)
        recorder.write(5, 7, 9)
        recorder.allow(6)
        made = recorder.copy()
        self.assertIsNot(made, recorder)
        self.assertIs(made.__class__, Recorder)
        for held in (made, recorder):
            self.check(held, ZERO + (("write", 5, 7, 9),), 6, 2)
            held.undo()
            self.check(held, ZERO + (("write", 5, 7, 9),), 4, 1)
            held.undo()
            self.check(held, ZERO, 4, 0)
            self.refuse(held, NothingToUndo, {}, held.undo)

    def test_they_go_their_own_ways(self):
        recorder = Recorder()
        recorder.write(1, 0, 0)
        made = recorder.copy()
        made.write(2, 0, 0)
        recorder.allow(9)
        recorder.read(1, 5, 5)
        self.check(made, (("write", 1, 0, 0), ("write", 2, 0, 0)), 0, 2)
        self.check(recorder, (("write", 1, 0, 0), ("read", 1, 5, 5)), 9, 3)
        made.undo()
        made.undo()
        self.check(made, (), 0, 0)
        self.check(recorder, (("write", 1, 0, 0), ("read", 1, 5, 5)), 9, 3)
        recorder.undo()
        again = recorder.copy().copy()
        recorder.undo()
        self.check(recorder, (("write", 1, 0, 0),), 0, 1)
        self.check(again, (("write", 1, 0, 0),), 9, 2)

    def test_a_copy_of_a_new_one(self):
        for recorder in (Recorder(), Recorder(GREATEST_TOLERANCE), Recorder.of(LOST * 200, 3)):
            self.check(recorder.copy(), recorder.log, recorder.tolerance, 0)


class Equality(Recorded):

    def equal(self, one, other):
        for left, right in ((one, other), (other, one)):
            self.assertIs(left == right, True)
            self.assertIs(left != right, False)

    def differ(self, one, other):
        for left, right in ((one, other), (other, one)):
            self.assertIs(left == right, False)
            self.assertIs(left != right, True)

    def test_logs_and_tolerances(self):
        self.equal(Recorder(), Recorder())
        self.equal(Recorder(0), Recorder.of(()))
        self.equal(Recorder.of(LOG, 3), Recorder.of(copy.deepcopy(LOG), 3))
        self.differ(Recorder.of(LOG, 3), Recorder.of(LOG, 2))
        self.differ(Recorder.of(LOG, 3), Recorder.of(LOG[:3], 3))
        self.differ(Recorder.of(LOST + ZERO), Recorder.of(ZERO + LOST))
        self.differ(Recorder(1), Recorder(2))

    def test_changes_do_not_count(self):
        one, other = Recorder.of(ZERO, 5), Recorder(5)
        other.write(1, 0, 1)
        self.differ(one, other)
        other.read(0, 5, 6)
        self.equal(one, other)
        other.allow(5)
        self.equal(one, other)
        self.equal(one, other.copy())
        other.allow(6)
        self.differ(one, other)

    def test_with_itself(self):
        recorder = Recorder.of(LOG, 3)
        self.equal(recorder, recorder)

    def test_a_recorder_equals_nothing_else(self):
        class Friendly:
            def __eq__(self, other):
                return True

        recorder = Recorder.of(LOG, 0)
        for value in all_odd_values() + [0, 1, LOG, (LOG, 0), list(LOG), {"log": LOG, "tolerance": 0}, Recorder]:
            self.differ(recorder, value)
            self.differ(Recorder(), value)
        self.assertIs(recorder == Friendly(), False)


if __name__ == "__main__":
    unittest.main()
