"""Section 15: trials of a recorder."""

import unittest

from clockslack.errors import BadTolerance, CellError, NothingToUndo, Written
from clockslack.recorder import Recorder
from clockslack.trials import Trial, tried
from samples import LOG, LOST, ZERO


class Own(Exception):
    pass


def state_of(recorder):
    """Tell all of a recorder: its log and tolerance, and those behind each undo."""
    held = recorder.copy()
    states = [(held.log, held.tolerance, held.changes)]
    while held.changes > 0:
        held.undo()
        states.append((held.log, held.tolerance, held.changes))
    return states


def changed():
    """Make a recorder with three changes to undo."""
    recorder = Recorder.of(ZERO, 4)
    recorder.write(5, 7, 9)
    recorder.allow(6)
    recorder.read(5, 8, 8)
    return recorder


def no_change(held):
    held.first_fault()


def changes(held):
    held.write(6, 0, 1)
    held.allow(7)
    held.read(6, 1, 2)


def undoes_what_it_did(held):
    changes(held)
    held.undo()
    held.undo()
    held.undo()


def undoes_more_than_it_did(held):
    held.allow(9)
    held.undo()
    held.undo()
    held.undo()


def undoes_all_and_begins_anew(held):
    while held.changes > 0:
        held.undo()
    for value in range(20, 40):
        held.write(value, 0, 1)
    held.allow(0)


def tries_within(held):
    held.write(30, 0, 1)
    before = state_of(held)
    with Trial(held) as again:
        undoes_more_than_it_did(again)
        tried(again, changes)
    assert state_of(held) == before
    held.undo()
    held.undo()


def tries_twice(held):
    tried(held, undoes_more_than_it_did)
    held.allow(3)
    tried(held, undoes_all_and_begins_anew)
    held.allow(2)


LOOKS = (no_change, changes, undoes_what_it_did, undoes_more_than_it_did, undoes_all_and_begins_anew, tries_within,
         tries_twice)


class Trials(unittest.TestCase):

    def unchanged(self, call):
        """Check that a call with a recorder, of any history, leaves it as it was, and the same object."""
        for recorder in (changed(), Recorder(), Recorder(5), Recorder.of(LOG, 2), Recorder.of(LOST * 200)):
            before = state_of(recorder)
            call(recorder)
            self.assertEqual(repr(state_of(recorder)), repr(before))

    def within(self, look, recorder):
        """Let a function look at a recorder, which may have too few changes or too many operations for it."""
        try:
            look(recorder)
        except CellError:
            pass

    def test_a_block(self):
        for look in LOOKS:
            def call(recorder):
                with Trial(recorder) as held:
                    self.within(look, held)
            self.unchanged(call)

    def test_the_name_is_the_recorder_itself(self):
        recorder = changed()
        with Trial(recorder) as held:
            self.assertIs(held, recorder)
            held.allow(1)
            self.assertEqual(recorder.tolerance, 1)
            recorder.allow(2)
            self.assertEqual((held.tolerance, held.changes), (2, 5))
        self.assertEqual((held.tolerance, recorder.changes), (6, 3))

    def test_the_recorder_by_name(self):
        recorder = changed()
        before = state_of(recorder)
        with Trial(recorder=recorder) as held:
            held.undo()
        self.assertEqual(state_of(recorder), before)
        self.assertEqual(tried(look=lambda held: held.changes, recorder=recorder), 3)
        self.assertEqual(tried(recorder=recorder, look=lambda held: held.changes), 3)

    def test_the_same_changes_to_undo(self):
        recorder = changed()
        with Trial(recorder) as held:
            undoes_all_and_begins_anew(held)
        recorder.undo()
        self.assertEqual((recorder.log, recorder.tolerance, recorder.changes), (ZERO + (("write", 5, 7, 9),), 6, 2))
        recorder.undo()
        recorder.undo()
        self.assertEqual((recorder.log, recorder.tolerance, recorder.changes), (ZERO, 4, 0))

    def test_an_error_ends_the_block(self):
        for error in (Own("told"), NothingToUndo(), KeyError(1), KeyboardInterrupt(), GeneratorExit()):
            for look in LOOKS:
                def call(recorder):
                    with self.assertRaises(error.__class__) as caught:
                        with Trial(recorder) as held:
                            self.within(look, held)
                            raise error
                    self.assertIs(caught.exception, error)
                self.unchanged(call)

    def test_errors_of_the_package_are_passed_on(self):
        for error, look in ((Written, lambda held: (held.write(50, 0, 0), held.write(50, 0, 0))),
                            (BadTolerance, lambda held: (held.allow(1), held.allow(-1))),
                            (NothingToUndo, lambda held: [held.undo() for _ in range(9)])):
            recorder = changed()
            before = state_of(recorder)
            with self.assertRaises(error):
                with Trial(recorder) as held:
                    look(held)
            self.assertEqual(state_of(recorder), before)
            with self.assertRaises(error):
                tried(recorder, look)
            self.assertEqual(state_of(recorder), before)

    def test_a_block_that_is_left_early(self):
        def leave(recorder):
            with Trial(recorder) as held:
                held.allow(1)
                return held.tolerance

        recorder = changed()
        before = state_of(recorder)
        self.assertEqual(leave(recorder), 1)
        self.assertEqual(state_of(recorder), before)

    def test_trials_within_trials(self):
        recorder = changed()
        before = state_of(recorder)
        with Trial(recorder) as one:
            one.write(40, 0, 1)
            between = state_of(recorder)
            with Trial(one) as other:
                other.undo()
                other.undo()
                self.assertEqual(recorder.changes, 2)
            self.assertEqual(state_of(recorder), between)
            with self.assertRaises(Own):
                with Trial(one) as other:
                    other.allow(0)
                    raise Own
            self.assertEqual(state_of(recorder), between)
        self.assertEqual(state_of(recorder), before)

    def test_one_trial_for_several_blocks(self):
        recorder = changed()
        trial = Trial(recorder)
        # It is as it was when the block began, not when the trial was made.
        recorder.allow(8)
        for tolerance in (3, 5):
            before = state_of(recorder)
            with trial as held:
                held.allow(tolerance)
                between = state_of(recorder)
                with trial as again:
                    again.undo()
                    again.undo()
                self.assertEqual(state_of(recorder), between)
            self.assertEqual(state_of(recorder), before)
            recorder.read(0, 0, 0)

    def test_two_recorders(self):
        one, other = changed(), Recorder.of(LOG)
        states = state_of(one), state_of(other)
        with Trial(one) as left, Trial(other) as right:
            left.undo()
            right.allow(5)
            self.assertEqual((one.changes, other.changes), (2, 1))
        self.assertEqual((state_of(one), state_of(other)), states)

    def test_changes_behind_the_block_stay(self):
        recorder = changed()
        with Trial(recorder) as held:
            held.allow(1)
        recorder.allow(2)
        self.assertEqual((recorder.tolerance, recorder.changes), (2, 4))

    def test_tried(self):
        for look in LOOKS:
            self.unchanged(lambda recorder: self.within(lambda held: tried(held, look), recorder))

    def test_tried_passes_the_recorder_itself_and_returns_what_the_function_returns(self):
        recorder = changed()
        found = []
        self.assertIsNone(tried(recorder, found.append))
        self.assertIs(found[0], recorder)
        value = object()
        self.assertIs(tried(recorder, lambda held: value), value)
        self.assertIs(tried(recorder, lambda held: held), recorder)
        self.assertEqual(tried(recorder, lambda held: held.write(9, 0, 0)), 4)
        self.assertEqual(tried(recorder, lambda held: (held.undo(), held.changes)), (None, 2))
        self.assertEqual(tried(recorder, Recorder.least), 4)
        self.assertEqual(tried(recorder, len), 4)

    def test_tried_passes_errors_on(self):
        def look(held):
            held.undo()
            raise error

        for error in (Own("told"), Written(3), KeyError(1)):
            def call(recorder):
                recorder.allow(recorder.tolerance)
                with self.assertRaises(error.__class__) as caught:
                    tried(recorder, look)
                self.assertIs(caught.exception, error)
                recorder.undo()
            self.unchanged(call)


if __name__ == "__main__":
    unittest.main()
