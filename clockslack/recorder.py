"""A recorder: a live log with a tolerance, and with undo."""

from clockslack.errors import BadLog, BadOperation, BadTolerance, NoIndex, NothingToUndo, TooMany, Written
from clockslack.faults import first_fault
from clockslack.least import least_tolerance
from clockslack.logs import joined
from clockslack.operations import READ, WRITE, is_index, is_log, is_operation, is_tolerance
from clockslack.reads import readable
from clockslack.values import is_value, writes_of


class Recorder:
    """A log that grows by one operation at a time, and a tolerance."""

    MOST = 200

    def __init__(self, tolerance=0):
        if not is_tolerance(tolerance):
            raise BadTolerance(tolerance)
        # Each log with its tolerance, from the first one to the present one.
        # All are tuples: so copies and trials can share them.
        self.states = (((), tolerance),)

    @classmethod
    def of(cls, log, tolerance=0):
        """Return a recorder with a log and nothing to undo."""
        if not is_log(log):
            raise BadLog(log)
        made = cls(tolerance)
        made.states = ((log, tolerance),)
        return made

    @property
    def log(self):
        """The log."""
        return self.states[-1][0]

    @property
    def tolerance(self):
        """The tolerance."""
        return self.states[-1][1]

    @property
    def changes(self):
        """How many changes can be undone."""
        return len(self.states) - 1

    def write(self, value, begin, end):
        """Append a write and return its index."""
        operation = (WRITE, value, begin, end)
        if not is_operation(operation):
            raise BadOperation(operation)
        if value in writes_of(self.log):
            raise Written(value)
        return self._add_operation(operation)

    def read(self, value, begin, end):
        """Append a read and return its index."""
        operation = (READ, value, begin, end)
        if not is_operation(operation):
            raise BadOperation(operation)
        return self._add_operation(operation)

    def allow(self, tolerance):
        """Replace the tolerance."""
        if not is_tolerance(tolerance):
            raise BadTolerance(tolerance)
        self._change(self.log, tolerance)

    def undo(self):
        """Take back the last change that was not undone."""
        if self.changes == 0:
            raise NothingToUndo()
        self.states = self.states[:-1]

    def first_fault(self):
        """Return the first fault of the log within the tolerance, None if there is none."""
        return first_fault(self.log, self.tolerance)

    def least(self):
        """Return the least tolerance within which the log can be explained, None if there is none."""
        return least_tolerance(self.log)

    def copy(self):
        """Return an independent recorder in the same state, with the same changes to undo."""
        made = Recorder()
        made.states = self.states
        return made

    def _add_operation(self, operation):
        index = len(self.log)
        if index >= Recorder.MOST:
            raise TooMany(Recorder.MOST)
        self._change(self.log + (operation,), self.tolerance)
        return index

    def _change(self, log, tolerance):
        self.states = self.states + ((log, tolerance),)

    def __call__(self, begin, end):
        """Return the values that a further read could have returned."""
        return readable(self.log, self.tolerance, begin, end)

    def __getitem__(self, at):
        if not is_index(self.log, at):
            raise NoIndex(at)
        return self.log[at]

    def __contains__(self, x):
        return is_value(self.log, x)

    def __len__(self):
        return len(self.log)

    def __iter__(self):
        # Otherwise Python would count up the indexes until one is none.
        raise TypeError("a recorder is not iterated over: take its log")

    def __add__(self, other):
        if not isinstance(other, Recorder):
            return NotImplemented
        log = joined(self.log, other.log)
        tolerance = max(self.tolerance, other.tolerance)
        made = Recorder()
        made.states = ((log, tolerance),)
        return made

    def __eq__(self, other):
        return isinstance(other, Recorder) and self.log == other.log and self.tolerance == other.tolerance
