"""What an integer is for the whole package, and its decimal text."""

# More than any number of a log has; so no text is too long for int.
MOST_DIGITS = 20


def is_integer(value):
    """Tell whether any value is an integer."""
    # Python counts a bool as an int; the document does not.
    return isinstance(value, int) and not isinstance(value, bool)


def is_integer_within(value, least, greatest):
    """Tell whether any value is an integer from least to greatest."""
    return is_integer(value) and least <= value <= greatest


def parse_integer(text):
    """Return the integer with this decimal text of at most 20 digits, None if there is none."""
    digits = text.removeprefix("-")
    if len(digits) == 0 or len(digits) > MOST_DIGITS:
        return None
    # Not isdigit: it also holds for digits of other scripts.
    if not all([digit in "0123456789" for digit in digits]):
        return None
    number = int(text)
    # Leading zeros and -0 are read, but are never written.
    return number if str(number) == text else None
