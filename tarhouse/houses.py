"""Houses: the trees that archives unpack to."""

from tarhouse.errors import NoHouse, NoPath
from tarhouse.members import is_data, is_mode, is_name, is_path, is_time
from tarhouse.paths import directory_of


class House:
    """A tree of directories, symlinks and files, which several paths may share."""

    def __init__(self):
        self.rows = ()
        self.things = {}
        self.firsts = {}

    def __eq__(self, other):
        return isinstance(other, House) and self.rows == other.rows

    def __len__(self):
        return len(self.rows)

    @classmethod
    def of(cls, entries):
        """Return the house with these entries."""
        if not are_entries(entries):
            raise NoHouse(entries)
        given = {path: thing for path, thing in entries}
        things = {}
        marks = {}
        for path, thing in entries:
            first = thing[1] if thing[0] == "link" else path
            things[path] = given[first]
            if given[first][0] == "file":
                marks[path] = first
        return filled(cls(), things, marks)

    def entries(self):
        """Return the list of the entries."""
        return list(self.rows)

    def sharers(self, path):
        """Return the ascending list of the paths that share the file at a path."""
        if not self.has(path) or path not in self.firsts:
            raise NoPath(path)
        first = self.firsts[path]
        return [other for other in sorted(self.firsts) if self.firsts[other] == first]

    def thing_at(self, path):
        """Return the thing at a path, for all paths of a shared file the file."""
        if not self.has(path):
            raise NoPath(path)
        return self.things[path]

    def has(self, path):
        """Return whether any value is a path of the house."""
        return isinstance(path, str) and path in self.things


def filled(house, things, marks):
    """Fill an empty house, and return it; files with equal marks are shared."""
    rows = []
    leasts = {}
    for path in sorted(things):
        house.things[path] = things[path]
        row = things[path]
        if path in marks:
            first = leasts.setdefault(marks[path], path)
            house.firsts[path] = first
            if first != path:
                row = ("link", first)
        rows.append((path, row))
    house.rows = tuple(rows)
    return house


def are_entries(thing):
    """Return whether any value is a list or tuple of the entries of a house."""
    if not isinstance(thing, (list, tuple)) or not all([is_entry(entry) for entry in thing]):
        return False
    things = {entry[0]: entry[1] for entry in thing}
    if len(things) != len(thing):
        return False
    return all([stands_right(path, things) for path in things])


def is_entry(thing):
    """Return whether a value is an entry, whatever the others are."""
    if not isinstance(thing, tuple) or len(thing) != 2:
        return False
    return is_path(thing[0]) and is_thing(thing[1])


def is_thing(thing):
    """Return whether a value can stand in an entry, whatever the others are."""
    if not isinstance(thing, tuple) or not 2 <= len(thing) <= 4:
        return False
    kind = thing[0]
    if len(thing) == 2:
        return kind == "link" and isinstance(thing[1], str)
    if not is_mode(thing[-2]) or not is_time(thing[-1]):
        return False
    if len(thing) == 3:
        return kind == "directory"
    return kind == "file" and is_data(thing[1]) or kind == "symlink" and is_name(thing[1])


def stands_right(path, things):
    """Return whether a path has a directory above, and a link a file to share."""
    above = directory_of(path)
    if above != "" and kind_at(above, things) != "directory":
        return False
    thing = things[path]
    return thing[0] != "link" or kind_at(thing[1], things) == "file"


def kind_at(path, things):
    """Return the first string of the thing at a path, empty if there is none."""
    return things[path][0] if path in things else ""
