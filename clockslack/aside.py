"""Values set aside: the fewest without which a log can be explained, and a table that shows it."""

from clockslack.faults import faults_within_values
from clockslack.integers import is_integer
from clockslack.logs import without
from clockslack.operations import VALUE
from clockslack.orders import can_explain
from clockslack.values import are_spans_crossed, is_span_before, is_value, spans_of, values_of


def fewest_aside(log, tolerance, *, by="values"):
    """Return the least total weight of values to be set aside so that the rest can be explained."""
    return _weight_shown(log, tolerance, by, heights(log, tolerance, by=by))


def aside(log, tolerance, *, by="values"):
    """Return values of the least total weight to be set aside so that the rest can be explained, ascending."""
    wide, narrow = _wide_and_narrow(log, tolerance)
    rows = _climbed(_stretches(log, tolerance, by))
    kept = rows[-1][2] if len(rows) > 0 else []
    lost = [value for value in narrow
            if any([are_spans_crossed(narrow[value], wide[other], tolerance) for other in kept])]
    return tuple([value for value in values_of(log)
                  if value not in kept and (value not in narrow or value in lost)])


def heights(log, tolerance, *, by="values"):
    """Return a table of heights whose last height shows the least total weight."""
    return tuple([(place, height) for place, height, _ in _climbed(_stretches(log, tolerance, by))])


def shows_aside(log, tolerance, value, *, by="values"):
    """Tell whether any value is values to be set aside, with a table that shows that no others are fewer."""
    if not isinstance(value, tuple) or len(value) != 2:
        return False
    values, table = value
    if not _are_values(log, values) or not _is_table(log, tolerance, by, table):
        return False
    weights = _weights_of(log, by)
    total = sum([weights[given] for given in values])
    return total == _weight_shown(log, tolerance, by, table) and can_explain(without(log, values), tolerance)


def _weights_of(log, by):
    """Map each value to its weight."""
    weights = {}
    for operation in log:
        value = operation[VALUE]
        weights[value] = 1 if by == "values" else weights.get(value, 0) + 1
    return weights


def _weight_shown(log, tolerance, by, table):
    """Return the total weight that the last height of a table shows."""
    weights = _weights_of(log, by)
    _, narrow = _wide_and_narrow(log, tolerance)
    height = table[-1][1] if len(table) > 0 else 0
    return sum(list(weights.values())) - sum([weights[value] for value in narrow]) - height


def _wide_and_narrow(log, tolerance):
    """Map the wide values to their spans, and the narrow ones to theirs."""
    spans = spans_of(log)
    bad = {log[fault[1]][VALUE] for fault in faults_within_values(log, tolerance)}
    wide = {}
    narrow = {}
    for value in spans:
        if value in bad:
            continue
        # The stretch begins ahead of its end if the value so to say is before itself.
        if is_span_before(spans[value], spans[value], tolerance):
            wide[value] = spans[value]
        else:
            narrow[value] = spans[value]
    return wide, narrow


def _stretches(log, tolerance, by):
    """List the end of each wide value's stretch, the value, the begin, None for 0, and the gain: ascending."""
    wide, narrow = _wide_and_narrow(log, tolerance)
    weights = _weights_of(log, by)
    found = []
    for value in wide:
        first, end = wide[value]
        within = [weights[other] for other in narrow if are_spans_crossed(wide[value], narrow[other], tolerance)]
        begin = None if first is None else first + tolerance
        found.append((end, value, begin, weights[value] - sum(within)))
    return sorted(found)


def _climbed(stretches):
    """List rows of a place, a height, and values whose stretches end by there, do not overlap and gain this height.

    Each height is the greatest possible one, and more than the one before it.
    """
    rows = []
    for end, value, begin, gain in stretches:
        height = _height_at(rows, begin) + gain
        if height > _height_at(rows, end):
            kept = _kept_at(rows, begin) + [value]
            # Another stretch may have the same end.
            rows = [row for row in rows if row[0] < end] + [(end, height, kept)]
    return rows


def _height_at(rows, number):
    """Return the height at a number; None is below every integer."""
    row = _row_at(rows, number)
    return 0 if row is None else row[1]


def _kept_at(rows, number):
    """Return the values that gain the height at a number; None is below every integer."""
    row = _row_at(rows, number)
    return [] if row is None else row[2]


def _row_at(rows, number):
    """Return the last row whose place is at most a number, None if there is none."""
    found = None
    for row in rows:
        if number is not None and row[0] <= number:
            found = row
    return found


def _are_values(log, values):
    """Tell whether any value is an ascending tuple of values of the log."""
    if not isinstance(values, tuple) or not all([is_value(log, value) for value in values]):
        return False
    return all([one < other for one, other in zip(values, values[1:])])


def _is_table(log, tolerance, by, table):
    """Tell whether any value is a table of heights for the log."""
    if not isinstance(table, tuple) or not all([_is_pair(item) for item in table]):
        return False
    if len(table) > 0 and table[0][1] < 0:
        return False
    for one, other in zip(table, table[1:]):
        if one[0] >= other[0] or one[1] > other[1]:
            return False
    return all([_height_at(table, end) - _height_at(table, begin) >= gain
                for end, _, begin, gain in _stretches(log, tolerance, by)])


def _is_pair(value):
    """Tell whether any value is a pair of integers."""
    return isinstance(value, tuple) and len(value) == 2 and is_integer(value[0]) and is_integer(value[1])
