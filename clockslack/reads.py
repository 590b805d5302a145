"""Further reads: which values a read that is not in the log could have returned."""

from clockslack.errors import BadStamps
from clockslack.faults import demand_explained
from clockslack.operations import READ, are_stamps, surely_before
from clockslack.values import are_spans_crossed, spans_of, writes_of


def readable(log, tolerance, begin, end):
    """Return the values that a further read with this begin and end could have returned, ascending."""
    demand_explained(log, tolerance)
    if not are_stamps(begin, end):
        raise BadStamps(begin, end)
    possible = [0] + sorted(writes_of(log))
    return tuple([value for value in possible if _fits(log, tolerance, (READ, value, begin, end))])


def must_return(log, tolerance, begin, end):
    """Return the only value that a further read could have returned, None if there are several."""
    found = readable(log, tolerance, begin, end)
    return found[0] if len(found) == 1 else None


def _fits(log, tolerance, read):
    """Tell whether a log that can be explained still can be with a further read of 0 or of a written value."""
    longer = log + (read,)
    _, value, _, _ = read
    if value != 0 and surely_before(longer, tolerance, len(log), writes_of(log)[value]):
        return False
    # The other values have no fault without the read, and it changes none of their spans.
    spans = spans_of(longer)
    return not any([are_spans_crossed(spans[value], spans[other], tolerance) for other in spans if other != value])
