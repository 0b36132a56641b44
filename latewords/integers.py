"""Integers as the document means them: an int that is not a bool (point 2)."""


def is_integer(value):
    """Tell whether any value is an integer."""
    return isinstance(value, int) and not isinstance(value, bool)


def between(value, low, high):
    """Tell whether any value is an integer from low to high."""
    return is_integer(value) and low <= value <= high
