"""Effects: what members do to every house."""

from tarhouse.members import Directory, Link, is_path
from tarhouse.paths import paths_above
from tarhouse.trees import thing_of

ANYTHING = ("absent", "directory", "file", "symlink")
# What may stand where a directory has to be, and where anything else is put.
GROUND = ("absent", "directory")
PLACE = ("absent", "file", "symlink")
SAME = ("same",)
MADE_IF_MISSING = ("made",)
KINDS_LEFT = {"made": "directory", "directory": "directory", "file": "file", "moved": "file", "symlink": "symlink"}


def effect(members):
    """Return the effect of members, or None if they are never unpacked."""
    outlook = Outlook()
    for member in members:
        if not outlook.admit(member):
            return None
        outlook.settle(member)
    return outlook.told()


class Outlook:
    """What is known of any house into which members are unpacked."""

    def __init__(self):
        # What may have stood at each path that is met, and what stands there
        # now: an outcome, but a new file has its number in `files`.
        self.needs = {}
        self.outcomes = {}
        self.files = []

    def admit(self, member):
        """Need what unpacking a member does; return whether any house has it."""
        if not is_path(member.name):
            return False
        checks = [self.stands(above, GROUND) for above in paths_above(member.name)]
        checks.append(self.stands(member.name, GROUND if isinstance(member, Directory) else PLACE))
        if isinstance(member, Link):
            checks.append(self.has_file(member.target))
        return all(checks)

    def stands(self, path, kinds):
        """Need one of these kinds at a path now; return whether it may stand there."""
        outcome = self.outcomes.get(path, SAME)
        if outcome == SAME:
            return self.stood(path, kinds)
        return KINDS_LEFT[outcome[0]] in kinds

    def stood(self, path, kinds):
        """Need one of these kinds at a path before; return whether it may have stood there."""
        self.outcomes.setdefault(path, SAME)
        self.needs[path] = tuple([kind for kind in self.needs.get(path, ANYTHING) if kind in kinds])
        return len(self.needs[path]) > 0

    def has_file(self, target):
        """Need a file at the target of a hard link; return whether it may stand there."""
        if not is_path(target):
            return False
        checks = [self.stands(target, ("file",))]
        if self.outcomes[target] == SAME:
            # Where a file stood, nothing above it was missing.
            checks += [self.stood(above, ("directory",)) for above in paths_above(target)]
        return all(checks)

    def settle(self, member):
        """Unpack a member that no need forbids."""
        for above in paths_above(member.name):
            if self.outcomes[above] == SAME:
                self.outcomes[above] = MADE_IF_MISSING
        self.outcomes[member.name] = self.outcome_of(member)

    def outcome_of(self, member):
        """Return what stands at the path of a member after it."""
        if isinstance(member, Link):
            return self.outcome_of_link(member)
        thing = thing_of(member)
        if thing[0] != "file":
            return thing
        self.files.append(thing)
        return ("file", len(self.files) - 1)

    def outcome_of_link(self, member):
        """Return what stands at the path of a hard link after it."""
        outcome = self.outcomes[member.target]
        if outcome == SAME:
            outcome = ("moved", member.target)
        # A file that comes back to where it stood has not moved.
        return SAME if outcome == ("moved", member.name) else outcome

    def told(self):
        """Return the rows of the effect."""
        rows = []
        firsts = {}
        for path in sorted(self.outcomes):
            outcome = self.outcomes[path]
            if outcome == MADE_IF_MISSING and "absent" not in self.needs[path]:
                outcome = SAME
            elif outcome[0] == "file":
                thing = self.files[outcome[1]]
                outcome = (*thing, firsts.setdefault(outcome[1], path))
            rows.append((path, self.needs[path], outcome))
        return rows
