"""The values of a log."""

from clockslack.errors import NoValue
from clockslack.integers import is_integer
from clockslack.operations import BEGIN, END, KIND, VALUE, WRITE


def values_of(log):
    """Return the values of a log, ascending."""
    return tuple(sorted({operation[VALUE] for operation in log}))


def operations_of(log, value):
    """Return the indexes of the operations of a value, ascending."""
    demand_value(log, value)
    return tuple([index for index, operation in enumerate(log) if operation[VALUE] == value])


def write_of(log, value):
    """Return the index of the write of a value, None if there is none."""
    demand_value(log, value)
    return writes_of(log).get(value, None)


def first_end(log, value):
    """Return the first end of a value, None for 0."""
    demand_value(log, value)
    return spans_of(log)[value][0]


def last_begin(log, value):
    """Return the last begin of a value."""
    demand_value(log, value)
    return spans_of(log)[value][1]


def is_before(log, tolerance, one, other):
    """Tell whether one value is before another one."""
    demand_value(log, one)
    demand_value(log, other)
    spans = spans_of(log)
    return one != other and is_span_before(spans[one], spans[other], tolerance)


def demand_value(log, value):
    """Raise NoValue if any value is not a value of the log."""
    if not is_value(log, value):
        raise NoValue(value)


def is_value(log, value):
    """Tell whether any value is a value of the log."""
    # A bool is checked for first: True in (1, 2) would hold.
    return is_integer(value) and value in values_of(log)


def writes_of(log):
    """Map each value that is written to the index of its write."""
    return {operation[VALUE]: index for index, operation in enumerate(log) if operation[KIND] == WRITE}


def ended_first(log):
    """Map each value to the least index of its operations with its first end."""
    found = {}
    for index, operation in enumerate(log):
        value = operation[VALUE]
        if value not in found or operation[END] < log[found[value]][END]:
            found[value] = index
    return found


def begun_last(log):
    """Map each value to the least index of its operations with its last begin."""
    found = {}
    for index, operation in enumerate(log):
        value = operation[VALUE]
        if value not in found or operation[BEGIN] > log[found[value]][BEGIN]:
            found[value] = index
    return found


def spans_of(log):
    """Map each value to its span: the pair of its first end, None for 0, and its last begin."""
    ended = ended_first(log)
    begun = begun_last(log)
    spans = {value: (log[ended[value]][END], log[begun[value]][BEGIN]) for value in ended}
    if 0 in spans:
        spans[0] = (None, spans[0][1])
    return spans


def is_span_before(one, other, tolerance):
    """Tell whether a value with one span is before a different value with the other span."""
    # The first end of 0 is less than every integer.
    return one[0] is None or one[0] + tolerance < other[1]


def are_spans_crossed(one, other, tolerance):
    """Tell whether two different values with these spans are before each other."""
    return is_span_before(one, other, tolerance) and is_span_before(other, one, tolerance)
