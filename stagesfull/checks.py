"""What several modules ask of values that may be of any kind."""

DIGITS = "0123456789"


def is_integer(value):
    """Whether value is an int and no bool."""
    return isinstance(value, int) and not isinstance(value, bool)


def is_between(value, low, high):
    """Whether value is an integer from low to high."""
    return is_integer(value) and low <= value <= high


def is_sequence(value):
    """Whether value is a tuple or a list."""
    return isinstance(value, (tuple, list))


def as_tuples(value):
    """The value with a tuple in place of each list, inside of one another too."""
    if is_sequence(value):
        return tuple([as_tuples(item) for item in value])
    return value


def is_short_number(digits):
    """Whether a string is one or two digits without a leading zero."""
    if len(digits) not in (1, 2) or not all([sign in DIGITS for sign in digits]):
        return False
    return digits == "0" or digits[0] != "0"
