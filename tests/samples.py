"""What several tests use: the logs of the document, and any values."""

LOG = (("write", 1, 0, 10), ("read", 1, 2, 4), ("write", 2, 6, 8), ("read", 1, 12, 14))
ZERO = (("write", 1, 0, 1), ("read", 0, 5, 6))
EARLY = (("read", 1, 0, 2), ("write", 1, 5, 6))
LOST = (("read", 7, 0, 1),)
TWO = (("write", 1, 0, 5), ("write", 2, 3, 8), ("read", 0, 1, 2))

STAMP = 10 ** 15
GREATEST_TOLERANCE = 10 ** 16


def nested(value, depth):
    """Put a value into that many containers, of several kinds."""
    for level in range(depth):
        value = ([value], (value,), {"held": value}, {level: value})[level % 4]
    return value


def odd_values():
    """Make values of every kind that is no integer, anew at each call."""
    return [
        None, True, False,
        "", "0", "1", "write", "read", "-", "1 0", "x" * 20000,
        (), (0,), (1,), (0, 1), ((),), ((0,),), (None,),
        [], [0], [1], [0, 1], [[]], [(0,)],
        {}, {0: 0}, {1: True}, {"index": 0}, {(1, 2): [3]},
        ("write", 1, 0, 1), ["write", 1, 0, 1], (("write", 1, 0, 1),), [("write", 1, 0, 1)],
        nested(0, 12), nested(1, 12), nested((), 12), nested("write", 12),
    ]


def deepest_values():
    """Make values that are nested as deep as any value is."""
    return [nested(0, 20), nested(True, 20), nested("write", 20), nested([], 19), nested(LOG, 18)]


def writes(count):
    """Make a log of so many writes of different values."""
    return tuple(("write", number + 1, number, number) for number in range(count))
