"""The errors of the package: each keeps its arguments under their names."""

# Each error stores its arguments itself and renders no message from them:
# any value may be passed, also an integer too long to be written in decimal.


class CellError(ValueError):
    """The base of all errors of the package."""


class NoIndex(CellError):
    """A value that is not an index of the log."""

    def __init__(self, index):
        self.index = index


class NoValue(CellError):
    """A value that is not a value of the log."""

    def __init__(self, value):
        self.value = value


class Unexplained(CellError):
    """A log that cannot be explained, with its first fault."""

    def __init__(self, fault):
        self.fault = fault


class BadOrder(CellError):
    """A value that is not an order that explains the log."""

    def __init__(self, value):
        self.value = value


class NoPosition(CellError):
    """A position that a value of the log cannot have."""

    def __init__(self, position):
        self.position = position


class BadStamps(CellError):
    """A begin and an end that cannot be those of an operation."""

    def __init__(self, begin, end):
        self.begin = begin
        self.end = end


class BadLog(CellError):
    """A value that is not a log."""

    def __init__(self, value):
        self.value = value


class BadTolerance(CellError):
    """A value that is not a tolerance."""

    def __init__(self, value):
        self.value = value


class BadOperation(CellError):
    """A tuple that is not an operation."""

    def __init__(self, operation):
        self.operation = operation


class Written(CellError):
    """A value that the log writes already."""

    def __init__(self, value):
        self.value = value


class TooMany(CellError):
    """A log that has as many operations as it can have."""

    def __init__(self, limit):
        self.limit = limit


class NothingToUndo(CellError):
    """No change is left that could be undone."""


class BadText(CellError):
    """A value that is not the text of what was asked for."""

    def __init__(self, value):
        self.value = value


class BadLine(CellError):
    """A value that is not a line with a form that a desk knows."""

    def __init__(self, line):
        self.line = line
