"""Texts of logs, orders and faults."""

from clockslack.errors import BadText
from clockslack.faults import INDEXES
from clockslack.integers import is_integer_within, parse_integer
from clockslack.operations import MOST_OPERATIONS, is_log

# The text of what has no parts.
NOTHING = "-"


def format_log(log):
    """Return the text of a log: one line for each operation."""
    if len(log) == 0:
        return NOTHING
    return "\n".join([_spaced(operation) for operation in log])


def format_order(order):
    """Return the text of a tuple of indexes."""
    return format_numbers(order)


def format_fault(fault):
    """Return the text of a fault."""
    return _spaced(fault)


def format_numbers(numbers):
    """Return the text of a tuple of integers."""
    if len(numbers) == 0:
        return NOTHING
    return _spaced(numbers)


def parse_log(text):
    """Return the log with this text."""
    found = _parse_operations(text) if isinstance(text, str) else None
    if not is_log(found):
        raise BadText(text)
    return found


def parse_fault(text):
    """Return the word and the indexes of the fault with this text."""
    if not isinstance(text, str):
        raise BadText(text)
    word, *words = text.split(" ")
    indexes = [parse_integer(part) for part in words]
    if word not in INDEXES or len(indexes) != INDEXES[word]:
        raise BadText(text)
    if not all([is_integer_within(index, 0, MOST_OPERATIONS - 1) for index in indexes]):
        raise BadText(text)
    return (word, *indexes)


def chart(log):
    """Return the operations in columns, one line for each."""
    return "\n".join([f"{index:>3} {kind:<5} {value:>10} {begin:>17} {end:>17}"
                      for index, (kind, value, begin, end) in enumerate(log)])


def _spaced(parts):
    return " ".join([str(part) for part in parts])


def _parse_operations(text):
    """Return a tuple with a tuple for each line, which need not be an operation."""
    if text == NOTHING:
        return ()
    return tuple([_parse_operation(line) for line in text.split("\n")])


def _parse_operation(line):
    """Return the word of a line and the integers behind it, None for each that is none."""
    word, *words = line.split(" ")
    numbers = [parse_integer(part) for part in words]
    return (word, *numbers)
