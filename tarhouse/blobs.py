"""Bytes objects from lists of numbers."""

from tarhouse.checks import is_integer_within
from tarhouse.errors import NoBlob


def blob(numbers):
    """Return the bytes object with these bytes."""
    if not is_row_of_bytes(numbers):
        raise NoBlob(numbers)
    return bytes(numbers)


def is_row_of_bytes(thing):
    """Return whether a value is a list or tuple of integers from 0 to 255."""
    if not isinstance(thing, (list, tuple)):
        return False
    return all([is_integer_within(number, 0, 255) for number in thing])
