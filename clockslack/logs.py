"""Other logs, made from given ones."""

from clockslack.errors import BadLog
from clockslack.operations import VALUE, is_log


def moved(log, amount):
    """Return the log with an amount added to all stamps."""
    return _demand_log(tuple([(kind, value, begin + amount, end + amount) for kind, value, begin, end in log]))


def widened(log, amount):
    """Return the log with an amount subtracted from all begins and added to all ends."""
    return _demand_log(tuple([(kind, value, begin - amount, end + amount) for kind, value, begin, end in log]))


def without(log, values):
    """Return the log without the operations of some values."""
    # Fewer operations of a log always are a log.
    return tuple([operation for operation in log if operation[VALUE] not in values])


def joined(*logs):
    """Return the operations of all logs, one log after the other."""
    return _demand_log(tuple([operation for log in logs for operation in log]))


def _demand_log(value):
    """Return a value if it is a log, and raise BadLog otherwise."""
    if not is_log(value):
        raise BadLog(value)
    return value
