"""Checks of any value that several modules need."""


def is_integer(thing):
    """Return whether a value is an integer."""
    # Python counts True and False among the integers; the document does not.
    return isinstance(thing, int) and not isinstance(thing, bool)


def is_integer_within(thing, least, most):
    """Return whether a value is an integer from `least` to `most`."""
    return is_integer(thing) and least <= thing <= most
