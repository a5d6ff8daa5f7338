"""What counts as an integer."""


def is_integer(value):
    """Return whether a value is an int that is not a bool."""
    return isinstance(value, int) and not isinstance(value, bool)


def is_integer_within(value, least, greatest):
    """Return whether a value is an integer from least to greatest."""
    return is_integer(value) and least <= value <= greatest
