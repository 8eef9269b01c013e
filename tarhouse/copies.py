"""Copies, so that no object shares its state with a caller."""


def copied(thing):
    """Return a value in which every list, tuple and dict is a new one."""
    if isinstance(thing, list):
        return [copied(part) for part in thing]
    if isinstance(thing, tuple):
        return tuple([copied(part) for part in thing])
    if isinstance(thing, dict):
        return {key: copied(thing[key]) for key in thing}
    return thing
