"""Paths, and what is above them."""


def directory_of(path):
    """Return the path directly above a path, empty for the root."""
    return path.rpartition("/")[0]
