"""What an integer is for the whole package."""


def is_integer(value):
    """Tell whether any value is an integer."""
    # Python counts a bool as an int; the document does not.
    return isinstance(value, int) and not isinstance(value, bool)


def is_integer_within(value, least, greatest):
    """Tell whether any value is an integer from least to greatest."""
    return is_integer(value) and least <= value <= greatest
