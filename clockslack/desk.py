"""A desk: a recorder that is told what to do by lines of text."""

from clockslack.aside import aside
from clockslack.choices import positions
from clockslack.errors import BadLine
from clockslack.integers import parse_integer
from clockslack.orders import order_for
from clockslack.recorder import Recorder
from clockslack.texts import format_fault, format_log, format_numbers, format_order

DONE = "ok"
NONE = "none"


def _write(recorder, value, begin, end):
    return str(recorder.write(value, begin, end))


def _read(recorder, value, begin, end):
    return str(recorder.read(value, begin, end))


def _allow(recorder, tolerance):
    recorder.allow(tolerance)
    return DONE


def _undo(recorder):
    recorder.undo()
    return DONE


def _log(recorder):
    return format_log(recorder.log).replace("\n", "; ")


def _least(recorder):
    least = recorder.least()
    return NONE if least is None else str(least)


def _fault(recorder):
    fault = recorder.first_fault()
    return NONE if fault is None else format_fault(fault)


def _order(recorder):
    return format_order(order_for(recorder.log, recorder.tolerance))


def _aside(recorder):
    return format_numbers(aside(recorder.log, recorder.tolerance))


def _when(recorder, value):
    return format_numbers(positions(recorder.log, recorder.tolerance, value))


def _could(recorder, begin, end):
    return format_numbers(recorder(begin, end))


# What to do for the first word of a line.
ACTIONS = {
    "write": _write, "read": _read, "allow": _allow, "undo": _undo, "log": _log, "least": _least, "fault": _fault,
    "order": _order, "aside": _aside, "when": _when, "could": _could,
}

# How many integers stand behind each word.
INTEGERS = {
    "write": 3, "read": 3, "allow": 1, "undo": 0, "log": 0, "least": 0, "fault": 0,
    "order": 0, "aside": 0, "when": 1, "could": 2,
}


class Desk:
    """A recorder, at first with the tolerance 0, and the lines that it understands."""

    def __init__(self):
        self.recorder = Recorder()

    def say(self, line):
        """Do what a line says and return the answer."""
        if not isinstance(line, str):
            raise BadLine(line)
        word, *words = line.split(" ")
        numbers = [parse_integer(part) for part in words]
        if word not in INTEGERS or len(numbers) != INTEGERS[word] or None in numbers:
            raise BadLine(line)
        action = ACTIONS[word]
        return action(self.recorder, *numbers)
