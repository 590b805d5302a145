"""Small logs to be searched through: all of the smallest ones, and many of up to six operations."""

from itertools import product

KINDS = (("write", 1), ("write", 2), ("read", 0), ("read", 1), ("read", 2))
SPANS = ((0, 0), (0, 1), (0, 2), (1, 1), (1, 2), (2, 2))


def is_written_once(log):
    written = [operation[1] for operation in log if operation[0] == "write"]
    return len(set(written)) == len(written)


def smallest_logs():
    """Make every log of at most two operations of two values with stamps from 0 to 2."""
    operations = [kind + span for kind in KINDS for span in SPANS]
    for count in range(3):
        for log in product(operations, repeat=count):
            if is_written_once(log):
                yield log


class Numbers:
    """Numbers that look arbitrary and are the same in every run."""

    def __init__(self, start):
        self.state = start

    def below(self, limit):
        self.state = (self.state * 6364136223846793005 + 1442695040888963407) & (2 ** 64 - 1)
        return (self.state >> 33) % limit


def mixed_log(numbers, count, values, stamps, longest):
    """Make a log with reads of 0, of values with a write and, seldom, of values without one."""
    written = []
    log = []
    for _ in range(count):
        begin = numbers.below(stamps)
        end = begin + numbers.below(longest)
        value = 1 + numbers.below(values)
        if value not in written and numbers.below(3) > 0:
            written.append(value)
            log.append(("write", value, begin, end))
        elif numbers.below(6) == 0:
            log.append(("read", 0, begin, end))
        elif numbers.below(12) == 0 or not written:
            log.append(("read", value, begin, end))
        else:
            log.append(("read", written[numbers.below(len(written))], begin, end))
    return tuple(log)


def mixed_logs(start, how_many, most):
    """Make logs of up to most operations: few and many values, short and long operations, equal stamps."""
    numbers = Numbers(start)
    for number in range(how_many):
        values, stamps, longest = ((2, 6, 4), (3, 9, 6), (4, 12, 3), (6, 10, 8), (3, 3, 3))[number % 5]
        yield mixed_log(numbers, 1 + numbers.below(most), values, stamps, longest)


def settled_logs(start, how_many, most):
    """Make logs that can be explained: operations along an order, with stamps that are a little off."""
    numbers = Numbers(start)
    for _ in range(how_many):
        held, fresh, now = 0, 1, 0
        log = []
        for _ in range(1 + numbers.below(most)):
            now += numbers.below(4)
            if numbers.below(2) == 0:
                held, fresh = fresh, fresh + 1
                operation = ("write", held)
            else:
                operation = ("read", held)
            middle = now + numbers.below(5) - 2
            stamps = (middle - numbers.below(4), middle + numbers.below(4))
            log.insert(numbers.below(len(log) + 1), operation + stamps)
        yield tuple(log)
