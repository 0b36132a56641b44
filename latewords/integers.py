"""Integers as the document means them: an int that is not a bool (point 2)."""


def between(value, low, high):
    """Tell whether any value is an integer from low to high."""
    return isinstance(value, int) and not isinstance(value, bool) and low <= value <= high
