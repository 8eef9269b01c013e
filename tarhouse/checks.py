"""Checks of any value that several modules need."""


def is_integer_within(thing, least, most):
    """Return whether a value is an integer from `least` to `most`."""
    # Python counts True and False among the integers; the document does not.
    if isinstance(thing, bool) or not isinstance(thing, int):
        return False
    return least <= thing <= most
