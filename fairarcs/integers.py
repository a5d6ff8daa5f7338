"""Integers: what counts as one, and how they are written."""

from fairarcs.errors import InvalidNumber


def is_integer(value):
    """Return whether a value is an int that is not a bool."""
    return isinstance(value, int) and not isinstance(value, bool)


def is_integer_within(value, least, greatest):
    """Return whether a value is an integer from least to greatest."""
    return is_integer(value) and least <= value <= greatest


def require_number(value, least):
    """Raise InvalidNumber if a value is not an integer from least on."""
    if not is_integer(value) or value < least:
        raise InvalidNumber(f"the number is not an integer from {least} on")


def digits_of(number):
    """Return the decimal digits of an integer from 0 on."""
    # Python refuses to write some thousand digits at once.
    found = []
    while number >= 10 ** 64:
        number, rest = divmod(number, 10 ** 64)
        found.append(f"{rest:064d}")
    found.append(str(number))
    return "".join(found[::-1])


def number_of(digits):
    """Return the integer that some digits from 0 to 9 write."""
    # Python refuses to read some thousand digits at once, too.
    first = len(digits) % 64
    found = int("0" + digits[:first])
    for at in range(first, len(digits), 64):
        found = found * 10 ** 64 + int(digits[at:at + 64])
    return found
