"""Choices: what the orders that explain a log have in common, and where they differ."""

from clockslack.errors import NoPosition
from clockslack.faults import demand_explained
from clockslack.integers import is_integer_within
from clockslack.orders import lined_up, order_by_values
from clockslack.values import demand_value, is_span_before, spans_of, values_of


def must_precede(log, tolerance, one, other):
    """Tell whether one value stands ahead of another one in every order that explains the log."""
    demand_explained(log, tolerance)
    demand_value(log, one)
    demand_value(log, other)
    return one in _preceding(log, tolerance, other)


def positions(log, tolerance, value):
    """Return the least and the greatest position of a value in orders that explain the log."""
    demand_explained(log, tolerance)
    demand_value(log, value)
    least = len(_preceding(log, tolerance, value))
    greatest = len(values_of(log)) - 1 - len(_following(log, tolerance, value))
    return least, greatest


def order_with(log, tolerance, value, position):
    """Return an order that explains the log and in which a value has a position."""
    least, greatest = positions(log, tolerance, value)
    if not is_integer_within(position, least, greatest):
        raise NoPosition(position)
    preceding = _preceding(log, tolerance, value)
    bound = preceding + [value] + _following(log, tolerance, value)
    lined = lined_up(log)
    free = [other for other in lined if other not in bound]
    # Whatever must precede a free value is free as well or must precede the
    # value: so the first ones of the free values can stand ahead of it.
    ahead = preceding + free[:position - least]
    front = [other for other in lined if other in ahead]
    back = [other for other in lined if other not in ahead and other != value]
    return order_by_values(log, front + [value] + back)


def final_values(log, tolerance):
    """Return the values that the cell can have after all operations, ascending."""
    demand_explained(log, tolerance)
    if len(log) == 0:
        return (0,)
    later = _values_behind(log, tolerance)
    return tuple([value for value in values_of(log) if len(later[value]) == 0])


def _preceding(log, tolerance, value):
    """List the values that must precede a value."""
    return _within_two_steps(_values_ahead(log, tolerance), value)


def _following(log, tolerance, value):
    """List the values that a value must precede."""
    return _within_two_steps(_values_behind(log, tolerance), value)


def _values_ahead(log, tolerance):
    """Map each value to the values that are before it."""
    spans = spans_of(log)
    return {value: [other for other in spans if _is_ahead(spans, tolerance, other, value)] for value in spans}


def _values_behind(log, tolerance):
    """Map each value to the values that it is before."""
    spans = spans_of(log)
    return {value: [other for other in spans if _is_ahead(spans, tolerance, value, other)] for value in spans}


def _is_ahead(spans, tolerance, one, other):
    return one != other and is_span_before(spans[one], spans[other], tolerance)


def _within_two_steps(table, value):
    """List what a table of lists gives for a value, and what it gives for these."""
    # If a log can be explained, a third step leads to nothing new.
    found = set()
    for between in table[value]:
        found.add(between)
        for other in table[between]:
            found.add(other)
    return sorted(found)
