"""A search through all orders and all faults of a small log, by the words of section 3."""

from itertools import combinations, permutations, product


def surely_before(log, tolerance, one, other):
    return log[one][3] + tolerance < log[other][2]


def reads_right(log, order):
    """Tell whether each read has the value of the last write ahead of it, 0 if there is none."""
    for place, index in enumerate(order):
        kind, value, _, _ = log[index]
        written = [log[ahead][1] for ahead in order[:place] if log[ahead][0] == "write"]
        if kind == "read" and value != (written[-1] if written else 0):
            return False
    return True


def stamps_right(log, tolerance, order):
    """Tell whether no operation stands ahead of one that is surely before it."""
    return not any(
        surely_before(log, tolerance, order[behind], order[ahead])
        for behind in range(len(order)) for ahead in range(behind))


def orders_that_read_right(log):
    return [order for order in permutations(range(len(log))) if reads_right(log, order)]


def orders_that_explain(log, tolerance):
    return [order for order in orders_that_read_right(log) if stamps_right(log, tolerance, order)]


def least_of(log):
    """Return the least tolerance for which an order explains the log, None if there is none."""
    orders = orders_that_read_right(log)
    if not orders:
        return None
    tolerance = 0
    while not any(stamps_right(log, tolerance, order) for order in orders):
        tolerance += 1
    return tolerance


def values_in(log):
    return sorted({operation[1] for operation in log})


def places_of(log, order, value):
    return [place for place, index in enumerate(order) if log[index][1] == value]


def stand_together(log, order):
    """Tell whether the operations of each value stand together."""
    for value in values_in(log):
        places = places_of(log, order, value)
        if places != list(range(places[0], places[0] + len(places))):
            return False
    return True


def position_of(log, order, value):
    """Return the number of values whose operations stand ahead of those of a value."""
    first = places_of(log, order, value)[0]
    return len({log[index][1] for index in order[:first]})


def final_value(log, order):
    written = [log[index][1] for index in order if log[index][0] == "write"]
    return written[-1] if written else 0


def is_fault(log, tolerance, fault):
    """Tell whether a word and its number of indexes are a fault within a tolerance."""
    word, *at = fault
    kinds = [log[index][0] for index in at]
    values = [log[index][1] for index in at]
    if word == "unwritten":
        return (kinds[0] == "read" and values[0] != 0
                and not any(operation[0] == "write" and operation[1] == values[0] for operation in log))
    if word == "early":
        return kinds == ["read", "write"] and values[0] == values[1] and surely_before(log, tolerance, *at)
    if word == "crossed":
        return (values[0] == values[3] and values[1] == values[2] and values[0] != values[1] and 0 not in values
                and surely_before(log, tolerance, *at[:2]) and surely_before(log, tolerance, *at[2:]))
    return kinds[1] == "read" and values[1] == 0 and values[0] != 0 and surely_before(log, tolerance, *at)


def candidates(log):
    """Make every word with its number of indexes."""
    for word, count in (("unwritten", 1), ("early", 2), ("crossed", 4), ("late", 2)):
        for at in product(range(len(log)), repeat=count):
            yield (word,) + at


def all_faults(log, tolerance):
    return [fault for fault in candidates(log) if is_fault(log, tolerance, fault)]


def bound_by_search(log, fault):
    """Return the least tolerance within which a fault is none, None if it always is one."""
    if fault[0] == "unwritten":
        return None
    tolerance = 0
    while is_fault(log, tolerance, fault):
        tolerance += 1
    return tolerance


def given_faults(log, tolerance):
    """List what faults has to give, by the words of section 7."""
    values = values_in(log)
    indexes = range(len(log))
    of = {value: [index for index in indexes if log[index][1] == value] for value in values}
    writes = {log[index][1]: index for index in indexes if log[index][0] == "write"}
    first = {value: min(of[value], key=lambda index: (log[index][3], index)) for value in values}
    last = {value: min(of[value], key=lambda index: (-log[index][2], index)) for value in values}

    def before(one, other):
        return one == 0 or log[first[one]][3] + tolerance < log[last[other]][2]

    found = [("unwritten", index) for index in indexes if log[index][1] not in writes and log[index][1] != 0]
    found += [("early", index, writes[log[index][1]]) for index in indexes
              if log[index][1] in writes and surely_before(log, tolerance, index, writes[log[index][1]])]
    for one, other in product([value for value in values if value == 0 or value in writes], repeat=2):
        if one < other and before(one, other) and before(other, one):
            if one == 0:
                found.append(("late", first[other], last[0]))
            else:
                found.append(("crossed", first[one], last[other], first[other], last[one]))
    return found


def readable_by_search(log, tolerance, begin, end):
    """List the values, 0 and those that are written, of a further read with which an order explains the log."""
    written = sorted(operation[1] for operation in log if operation[0] == "write")
    return [value for value in [0] + written
            if any(stamps_right(log + (("read", value, begin, end),), tolerance, order)
                   for order in orders_that_read_right(log + (("read", value, begin, end),)))]


def left_of(log, values):
    return tuple(operation for operation in log if operation[1] not in values)


def weight_of(log, values, by):
    return len(values) if by == "values" else len(log) - len(left_of(log, values))


def sets_of_values(log):
    """Yield every set of values of a log, as an ascending tuple."""
    values = values_in(log)
    for count in range(len(values) + 1):
        yield from combinations(values, count)


def leasts_without(log, least):
    """Pair every set of values of a log with the least tolerance of the rest, as a function tells it."""
    return [(values, least(left_of(log, values))) for values in sets_of_values(log)]


def fewest_of(log, pairs, tolerance, by):
    """Return the least weight of the sets, with their least tolerances, that suffice within a tolerance."""
    return min(weight_of(log, values, by) for values, least in pairs if least is not None and least <= tolerance)
