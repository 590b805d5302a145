"""Trades: the more values are set aside, the less tolerance is needed."""

from clockslack.aside import fewest_aside
from clockslack.faults import UNWRITTEN, bound_of, faults, faults_within_values
from clockslack.operations import VALUE


def tolerance_without(log, count):
    """Return the least tolerance if at most so many values are set aside, None if there is none."""
    if count < _unwritten_count(log):
        return None
    tolerances = _possible_tolerances(log)
    return tolerances[_least_place(log, tolerances, count, len(tolerances) - 1)]


def trade(log):
    """Return each count of values set aside with its tolerance, from the first one that has any to 0."""
    count = _unwritten_count(log)
    tolerances = _possible_tolerances(log)
    place = _least_place(log, tolerances, count, len(tolerances) - 1)
    found = [(count, tolerances[place])]
    while place > 0:
        count += 1
        place = _least_place(log, tolerances, count, place)
        found.append((count, tolerances[place]))
    return tuple(found)


def _unwritten_count(log):
    """Count the values with an unwritten fault, which are set aside within every tolerance."""
    return len({log[fault[1]][VALUE] for fault in faults_within_values(log, 0) if fault[0] == UNWRITTEN})


def _possible_tolerances(log):
    """List the tolerances that can be the least one without some values, ascending."""
    # What is left has no other faults than these, so its least tolerance is
    # one of their bounds, or 0.
    bounds = [bound_of(log, fault) for fault in faults(log, 0)]
    return sorted(set([0] + [bound for bound in bounds if bound is not None]))


def _least_place(log, tolerances, count, most):
    """Find the first tolerance for which so many values suffice, at most the one at a place that is known to do."""
    least = 0
    while least < most:
        middle = (least + most) // 2
        if fewest_aside(log, tolerances[middle]) <= count:
            most = middle
        else:
            least = middle + 1
    return least
