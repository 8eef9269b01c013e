"""All houses over some paths, and what an effect says of one of them, worked out row by row."""

from itertools import product

from tarhouse.errors import Refused
from tarhouse.houses import House
from tarhouse.unpacking import unpacked

DIRECTORIES = (("directory", 493, 0), ("directory", 5, 5))
SYMLINKS = (("symlink", "t", 511, 0), ("symlink", "y", 5, 5))
FILES = (("file", b"1", 420, 0), ("file", b"", 5, 5))
ALL_NEEDS = ("absent", "directory", "file", "symlink")


def above(path):
    """The path directly above a path, empty for the root."""
    return path.rpartition("/")[0]


def met(members):
    """The ascending list of the paths that members meet, if their names and targets are paths."""
    found = set()
    for member in members:
        for path in [member.name] + ([member.target] if member.KIND == "link" else []):
            while path:
                found.add(path)
                path = above(path)
    return sorted(found)


def partitions(paths):
    """All ways to share files among paths: each path with the least one of its class."""
    if not paths:
        yield {}
        return
    for firsts in partitions(paths[:-1]):
        for first in sorted(set(firsts.values())) + [paths[-1]]:
            yield {**firsts, paths[-1]: first}


def all_houses(paths, directories=DIRECTORIES, symlinks=SYMLINKS, files=FILES):
    """All houses over these paths, ascending and with everything above, and these things."""
    choices = [None, "file", *directories, *symlinks]
    for things in product(choices, repeat=len(paths)):
        standing = {path: thing for path, thing in zip(paths, things) if thing is not None}
        if not all(above(path) == "" or standing.get(above(path), "-")[0] == "directory" for path in standing):
            continue
        for firsts in partitions([path for path in standing if standing[path] == "file"]):
            leasts = sorted(set(firsts.values()))
            for given in product(files, repeat=len(leasts)):
                file_of = dict(zip(leasts, given))
                yield House.of([
                    (path, thing if thing != "file" else
                     file_of[path] if firsts[path] == path else ("link", firsts[path]))
                    for path, thing in standing.items()
                ])


def left(house, members):
    """The house that unpacking leaves, None if it is refused."""
    try:
        return unpacked(house, members)
    except Refused:
        return None


def predicted(house, rows):
    """The house that an effect says is left, None if a row does not allow what stands at its path."""
    if rows is None:
        return None
    things = {path: house.thing_at(path) for path, _ in house.entries()}
    files = {path: house.sharers(path)[0] for path in things if things[path][0] == "file"}
    before, before_files = dict(things), dict(files)
    if any((before[path][0] if path in before else "absent") not in needs for path, needs, _ in rows):
        return None
    for path, _, outcome in rows:
        if outcome == ("same",) or outcome == ("made",) and path in before:
            continue
        files.pop(path, None)
        if outcome == ("made",):
            things[path] = ("directory", 493, 0)
        elif outcome[0] == "moved":
            things[path], files[path] = before[outcome[1]], before_files[outcome[1]]
        elif outcome[0] == "file":
            things[path], files[path] = outcome[:4], ("new", outcome[4])
        else:
            things[path] = outcome
    firsts = {}
    for path in sorted(files):
        firsts.setdefault(files[path], path)
    return House.of([
        (path, ("link", firsts[files[path]]) if path in files and firsts[files[path]] != path else things[path])
        for path in things
    ])


def is_parting(house, one, other):
    """Whether two lists of members do not do the same to a house."""
    return left(house, one) != left(house, other)
