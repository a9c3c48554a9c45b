"""What several modules ask of values that may be of any kind."""


def is_integer(value):
    """Whether value is an int and no bool."""
    return isinstance(value, int) and not isinstance(value, bool)


def is_between(value, low, high):
    """Whether value is an integer from low to high."""
    return is_integer(value) and low <= value <= high


def is_sequence(value):
    """Whether value is a tuple or a list."""
    return isinstance(value, (tuple, list))
