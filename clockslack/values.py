"""The values of a log."""

from clockslack.errors import NoValue
from clockslack.integers import is_integer
from clockslack.operations import BEGIN, END, KIND, VALUE, WRITE


def values_of(log):
    """Return the values of a log, ascending."""
    return tuple(sorted({operation[VALUE] for operation in log}))


def operations_of(log, value):
    """Return the indexes of the operations of a value, ascending."""
    _demand_value(log, value)
    return tuple([index for index, operation in enumerate(log) if operation[VALUE] == value])


def write_of(log, value):
    """Return the index of the write of a value, None if there is none."""
    for index in operations_of(log, value):
        if log[index][KIND] == WRITE:
            return index
    return None


def first_end(log, value):
    """Return the first end of a value, None for 0."""
    indexes = operations_of(log, value)
    if value == 0:
        return None
    return min([log[index][END] for index in indexes])


def last_begin(log, value):
    """Return the last begin of a value."""
    return max([log[index][BEGIN] for index in operations_of(log, value)])


def is_before(log, tolerance, one, other):
    """Tell whether one value is before another one."""
    _demand_value(log, one)
    _demand_value(log, other)
    if one == other:
        return False
    # The first end of 0 is less than every integer.
    return one == 0 or first_end(log, one) + tolerance < last_begin(log, other)


def _demand_value(log, value):
    # A bool is checked for first: True in (1, 2) would hold.
    if not is_integer(value) or value not in values_of(log):
        raise NoValue(value)
