"""Tests of values that several modules share."""


def is_whole(value):
    """True if the value is an integer; True and False are none."""
    return isinstance(value, int) and not isinstance(value, bool)


def is_whole_between(value, low, high):
    """True if the value is an integer from low to high."""
    return is_whole(value) and low <= value <= high


def are_wholes(value):
    """True if the value is a list of integers."""
    return isinstance(value, list) and all([is_whole(entry) for entry in value])


def is_tagged(value, size):
    """True if the value is a tuple of this size that begins with a string."""
    return isinstance(value, tuple) and len(value) == size and isinstance(value[0], str)
