"""What counts as an integer: an int that is not a bool."""


def is_integer(value):
    """Return whether any value is an integer."""
    return isinstance(value, int) and not isinstance(value, bool)


def is_between(value, low, high):
    """Return whether any value is an integer from low to high."""
    return is_integer(value) and low <= value <= high
