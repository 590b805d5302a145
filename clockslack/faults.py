"""Faults: why a log cannot be explained within a tolerance."""

from clockslack.errors import Unexplained
from clockslack.operations import BEGIN, END, KIND, READ, VALUE, WRITE, is_index, surely_before
from clockslack.values import are_spans_crossed, begun_last, ended_first, spans_of, values_of, writes_of

UNWRITTEN = "unwritten"
EARLY = "early"
CROSSED = "crossed"
LATE = "late"

# How many indexes stand behind each word.
INDEXES = {"unwritten": 1, "early": 2, "crossed": 4, "late": 2}


def faults(log, tolerance):
    """Give faults within a tolerance: unwritten and early ones by index, then one for each pair of values."""
    yield from faults_within_values(log, tolerance)
    ended = ended_first(log)
    begun = begun_last(log)
    for one, other in _pairs_before_each_other(log, tolerance):
        if one == 0:
            yield (LATE, ended[other], begun[one])
        else:
            yield (CROSSED, ended[one], begun[other], ended[other], begun[one])


def shows_fault(log, tolerance, value):
    """Tell whether any value is a fault within a tolerance."""
    if not _has_form(log, value):
        return False
    word = value[0]
    if word == UNWRITTEN:
        return _is_unwritten(log, value[1])
    if word == EARLY:
        return _is_early(log, value) and surely_before(log, tolerance, value[1], value[2])
    if word == LATE:
        return _is_late(log, value) and surely_before(log, tolerance, value[1], value[2])
    _, a, b, c, d = value
    return (_is_crossed(log, value) and surely_before(log, tolerance, a, b)
            and surely_before(log, tolerance, c, d))


def bound_of(log, fault):
    """Return the least tolerance within which a fault is none, None for an unwritten one."""
    if fault[0] == UNWRITTEN:
        return None
    if fault[0] == CROSSED:
        _, a, b, c, d = fault
        return min(_gap(log, a, b), _gap(log, c, d))
    return _gap(log, fault[1], fault[2])


def faults_within_values(log, tolerance):
    """Give the faults that have operations of one value only: unwritten ones by index, then early ones."""
    writes = writes_of(log)
    for read, operation in enumerate(log):
        if operation[VALUE] != 0 and operation[VALUE] not in writes:
            yield (UNWRITTEN, read)
    for read, operation in enumerate(log):
        if operation[VALUE] in writes and surely_before(log, tolerance, read, writes[operation[VALUE]]):
            yield (EARLY, read, writes[operation[VALUE]])


def first_fault(log, tolerance):
    """Return the first fault that faults gives, None if there is none."""
    for fault in faults(log, tolerance):
        return fault
    return None


def demand_explained(log, tolerance):
    """Raise Unexplained if the log cannot be explained within a tolerance."""
    fault = first_fault(log, tolerance)
    if fault is not None:
        raise Unexplained(fault)


def _pairs_before_each_other(log, tolerance):
    writes = writes_of(log)
    spans = spans_of(log)
    values = [value for value in values_of(log) if value == 0 or value in writes]
    for at, one in enumerate(values):
        for other in values[at + 1:]:
            if are_spans_crossed(spans[one], spans[other], tolerance):
                yield (one, other)


def _has_form(log, value):
    """Tell whether any value is a tuple of a word and as many indexes as belong to it."""
    if not isinstance(value, tuple) or len(value) == 0:
        return False
    # A list or a dict cannot be looked up.
    if not isinstance(value[0], str) or value[0] not in INDEXES:
        return False
    return len(value) == INDEXES[value[0]] + 1 and all([is_index(log, index) for index in value[1:]])


def _is_unwritten(log, read):
    return log[read][VALUE] != 0 and log[read][VALUE] not in writes_of(log)


def _is_early(log, fault):
    _, read, write = fault
    return log[read][KIND] == READ and log[write][KIND] == WRITE and log[read][VALUE] == log[write][VALUE]


def _is_late(log, fault):
    _, ended, read = fault
    return log[read][VALUE] == 0 and log[ended][VALUE] != 0


def _is_crossed(log, fault):
    one, other, again, last = [log[index][VALUE] for index in fault[1:]]
    return one == last and other == again and one != other and one != 0 and other != 0


def _gap(log, one, other):
    return log[other][BEGIN] - log[one][END]
