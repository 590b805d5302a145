"""Tables of heights, by the words of section 12, and the values of a log that they are about."""

from search import left_of, surely_before, values_in

LOW = float("-inf")


def weight(log, values, by):
    return len(values) if by == "values" else len(log) - len(left_of(log, values))


class Sides:
    """The bad, the wide and the narrow values of a log within a tolerance."""

    def __init__(self, log, tolerance):
        self.log = log
        self.of = {value: [at for at, operation in enumerate(log) if operation[1] == value]
                   for value in values_in(log)}
        self.bad = [value for value in self.of if self.is_bad(value, tolerance)]
        self.stretches = {value: self.stretch_of(value, tolerance) for value in self.of if value not in self.bad}
        self.wide = [value for value, (begin, end) in self.stretches.items() if begin < end]
        self.narrow = [value for value, (begin, end) in self.stretches.items() if begin >= end]

    def is_bad(self, value, tolerance):
        """Tell whether a read has no write, or is surely before it."""
        writes = [at for at in self.of[value] if self.log[at][0] == "write"]
        return (value != 0 and not writes) or any(
            surely_before(self.log, tolerance, read, write) for write in writes for read in self.of[value])

    def stretch_of(self, value, tolerance):
        begin = LOW if value == 0 else min(self.log[at][3] for at in self.of[value]) + tolerance
        return begin, max(self.log[at][2] for at in self.of[value])

    def within(self, narrow, wide):
        (one, first), (other, last) = self.stretches[narrow], self.stretches[wide]
        return one < last and other < first

    def gain_of(self, value, by):
        inner = [other for other in self.narrow if self.within(other, value)]
        return weight(self.log, [value], by) - weight(self.log, inner, by)

    def is_table(self, by, table):
        """Tell whether a tuple of pairs of integers is a table of heights."""
        places, levels = [pair[0] for pair in table], [pair[1] for pair in table]
        if places != sorted(set(places)) or levels != sorted(levels) or any(level < 0 for level in levels):
            return False
        for value in self.wide:
            begin, end = self.stretches[value]
            if height_at(table, end) - height_at(table, begin) < self.gain_of(value, by):
                return False
        return True

    def shown_weight(self, by, table):
        """Return the weight that the last height shows."""
        last = table[-1][1] if table else 0
        return weight(self.log, values_in(self.log), by) - weight(self.log, self.narrow, by) - last


def height_at(table, number):
    heights = [0] + [height for place, height in table if place <= number]
    return heights[-1]
