"""Houses while members are unpacked into them."""

from tarhouse.houses import House, filled, kind_at
from tarhouse.members import Directory, File, Link, Sparse, Symlink
from tarhouse.paths import paths_above

MADE = ("directory", 493, 0)


class Tree:
    """A house that changes; the house that it was made of does not."""

    def __init__(self, house):
        self.things = {path: house.things[path] for path in house.things}
        # Files with equal marks are shared. New ones get numbers, which no
        # file of the house has: these are marked by their least paths.
        self.marks = {path: house.firsts[path] for path in house.firsts}
        self.many = 0

    def house(self):
        """Return the house as it is now."""
        return filled(House(), self.things, self.marks)

    def refusal_at(self, path, member, target):
        """Return the word for which a member is refused at a path, or empty."""
        kind = kind_at(path, self.things)
        if isinstance(member, Directory):
            return "occupied" if kind in ("file", "symlink") else ""
        if kind == "directory":
            return "directory"
        if isinstance(member, Link) and kind_at(target, self.things) != "file":
            return "target"
        return ""

    def put(self, path, member, target):
        """Put a member at a path; if it is a hard link, `target` is where its file stands."""
        for above in paths_above(path):
            if above not in self.things:
                self.things[above] = MADE
        self.many += 1
        mark = self.many
        thing = thing_of(member)
        if isinstance(member, Link):
            mark = self.marks[target]
            thing = self.things[target]
        self.things[path] = thing
        if thing[0] == "file":
            self.marks[path] = mark
        elif path in self.marks:
            del self.marks[path]


def thing_of(member):
    """Return the thing that a member puts at its path; None for a hard link."""
    if isinstance(member, Directory):
        return ("directory", member.mode, member.time)
    if isinstance(member, Symlink):
        return ("symlink", member.target, member.mode, member.time)
    if isinstance(member, (File, Sparse)):
        return ("file", member.content(), member.mode, member.time)
    return None
