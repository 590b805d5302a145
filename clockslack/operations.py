"""Operations, logs and tolerances."""

from clockslack.errors import NoIndex
from clockslack.integers import is_integer_within

# The places of the parts in an operation.
KIND = 0
VALUE = 1
BEGIN = 2
END = 3

READ = "read"
WRITE = "write"

MOST_OPERATIONS = 200
GREATEST_VALUE = 10 ** 9
GREATEST_STAMP = 10 ** 15
GREATEST_TOLERANCE = 10 ** 16


def is_operation(value):
    """Tell whether any value is an operation."""
    if not isinstance(value, tuple) or len(value) != 4:
        return False
    kind, held, begin, end = value
    return _fits_kind(kind, held) and are_stamps(begin, end)


def is_log(value):
    """Tell whether any value is a log."""
    if not isinstance(value, tuple) or len(value) > MOST_OPERATIONS:
        return False
    if not all([is_operation(item) for item in value]):
        return False
    written = [item[VALUE] for item in value if item[KIND] == WRITE]
    return len(set(written)) == len(written)


def is_tolerance(value):
    """Tell whether any value is a tolerance."""
    return is_integer_within(value, 0, GREATEST_TOLERANCE)


def is_index(log, value):
    """Tell whether any value is an index of the log."""
    return is_integer_within(value, 0, len(log) - 1)


def are_stamps(begin, end):
    """Tell whether any two values can be the begin and the end of an operation."""
    return _is_stamp(begin) and _is_stamp(end) and begin <= end


def surely_before(log, tolerance, one, other):
    """Tell whether one operation is surely before another one."""
    for index in (one, other):
        if not is_index(log, index):
            raise NoIndex(index)
    return log[one][END] + tolerance < log[other][BEGIN]


def _fits_kind(kind, held):
    if kind == WRITE:
        # 0 is what the cell has at first: it can be read, but not written.
        return is_integer_within(held, 1, GREATEST_VALUE)
    return kind == READ and is_integer_within(held, 0, GREATEST_VALUE)


def _is_stamp(value):
    return is_integer_within(value, -GREATEST_STAMP, GREATEST_STAMP)
