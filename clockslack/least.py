"""The least tolerance within which a log can be explained, and evidence of it."""

from clockslack.errors import Unexplained
from clockslack.faults import bound_of, faults, first_fault, shows_fault
from clockslack.orders import moments, order_for, shows_moments


def least_tolerance(log):
    """Return the least tolerance within which the log can be explained, None if there is none."""
    bounds = [bound_of(log, fault) for fault in faults(log, 0)]
    if None in bounds:
        return None
    return max(bounds, default=0)


def tight(log):
    """Return the faults within the tolerance 0 whose bound is the least tolerance."""
    least = least_tolerance(log)
    # An unwritten fault has the bound None as well, and is not meant.
    if least is None:
        return ()
    return tuple([fault for fault in faults(log, 0) if bound_of(log, fault) == least])


def evidence(log):
    """Return moments for the least tolerance and a fault with this bound, None if it is 0."""
    least = least_tolerance(log)
    if least is None:
        raise Unexplained(first_fault(log, 0))
    shown = moments(log, least, order_for(log, least))
    if least == 0:
        return shown, None
    return shown, tight(log)[0]


def shows_least(log, tolerance, value):
    """Tell whether any value is evidence that a tolerance is the least one."""
    if not isinstance(value, tuple) or len(value) != 2:
        return False
    shown, fault = value
    if not shows_moments(log, tolerance, shown):
        return False
    if tolerance == 0:
        return fault is None
    return shows_fault(log, tolerance - 1, fault)
