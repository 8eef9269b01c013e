"""Paths, and what is above them."""


def paths_above(path):
    """Return the list of the paths above a path, the highest one first."""
    parts = path.split("/")
    return ["/".join(parts[:many]) for many in range(1, len(parts))]


def directory_of(path):
    """Return the path directly above a path, empty for the root."""
    return path.rpartition("/")[0]


def joined(place, part):
    """Return the path of a part in a directory, of which the root is empty."""
    return part if place == "" else f"{place}/{part}"
