"""Orders and moments: how a log is explained within a tolerance."""

from clockslack.errors import BadOrder
from clockslack.faults import demand_explained, first_fault
from clockslack.integers import is_integer
from clockslack.operations import BEGIN, END, KIND, READ, VALUE, is_index
from clockslack.values import spans_of


def explains(log, tolerance, value):
    """Tell whether any value is an order that explains the log."""
    return _is_order(log, value) and _keeps_stamps(log, tolerance, value) and _keeps_values(log, value)


def can_explain(log, tolerance):
    """Tell whether the log can be explained within a tolerance."""
    return first_fault(log, tolerance) is None


def order_for(log, tolerance):
    """Return an order that explains the log."""
    demand_explained(log, tolerance)
    return order_by_values(log, lined_up(log))


def moments(log, tolerance, order):
    """Return moments whose indexes are an order that explains the log."""
    if not explains(log, tolerance, order):
        raise BadOrder(order)
    # Each operation takes the least moment that it can have. That is never too
    # late for it: otherwise it would surely be before one that stands ahead.
    pairs = []
    for index in order:
        moment = 2 * log[index][BEGIN] - tolerance
        if len(pairs) > 0:
            moment = max(moment, pairs[-1][1])
        pairs.append((index, moment))
    return tuple(pairs)


def shows_moments(log, tolerance, value):
    """Tell whether any value is moments for the log and a tolerance."""
    if not isinstance(value, tuple) or not all([_is_pair(item) for item in value]):
        return False
    indexes = tuple([index for index, _ in value])
    return _is_order(log, indexes) and _are_moments(log, tolerance, value) and _keeps_values(log, indexes)


def lined_up(log):
    """List the values so that none stands behind one that it must precede, if the log can be explained."""
    spans = spans_of(log)
    # If one value is before another one and not the other way round, its first
    # end plus the tolerance is less than the last begin of the other one, and
    # its last begin is at most the first end of the other one plus the
    # tolerance: so its first end plus its last begin is less.
    ranks = sorted([(sum(spans[value]), value) for value in spans if value != 0])
    values = [value for _, value in ranks]
    return [0] + values if 0 in spans else values


def order_by_values(log, values):
    """Return the order that has the operations of one value together, the values in a given sequence."""
    places = {value: place for place, value in enumerate(values)}
    # Of two operations of which one is surely before the other one, it has the
    # lesser sum of begin and end.
    ranks = sorted([(places[operation[VALUE]], operation[KIND] == READ, operation[BEGIN] + operation[END], index)
                    for index, operation in enumerate(log)])
    return tuple([rank[-1] for rank in ranks])


def _is_order(log, value):
    if not isinstance(value, tuple) or len(value) != len(log):
        return False
    return all([is_index(log, index) for index in value]) and len(set(value)) == len(value)


def _keeps_stamps(log, tolerance, order):
    """Tell whether no operation stands ahead of one that is surely before it."""
    begins = []
    for index in order:
        begins.append(log[index][BEGIN])
        if log[index][END] + tolerance < max(begins):
            return False
    return True


def _keeps_values(log, order):
    """Tell whether each read has the value of the last write ahead of it, 0 if there is none."""
    held = 0
    for index in order:
        if log[index][KIND] == READ and log[index][VALUE] != held:
            return False
        held = log[index][VALUE]
    return True


def _is_pair(value):
    return isinstance(value, tuple) and len(value) == 2 and is_integer(value[1])


def _are_moments(log, tolerance, pairs):
    least = None
    for index, moment in pairs:
        if moment < 2 * log[index][BEGIN] - tolerance or moment > 2 * log[index][END] + tolerance:
            return False
        if least is not None and moment < least:
            return False
        least = moment
    return True
