"""Editing archives."""

from tarhouse.blocks import BLOCK_SIZE
from tarhouse.checks import is_integer_within
from tarhouse.errors import NoEdit, NoIndex, TooMany
from tarhouse.members import check_members, copy_of
from tarhouse.reading import read
from tarhouse.writing import packed, written


class Editor:
    """An archive, and the edits of it that can be taken back."""

    LIMIT = 100

    def __init__(self):
        # The members before each edit that has not been taken back, and now.
        # They are the editor's own: nobody else has them.
        self.states = [()]

    def __len__(self):
        return len(self.states[-1])

    @classmethod
    def of(cls, data):
        """Return an editor of an archive."""
        members = read(data)
        if len(members) > cls.LIMIT:
            raise TooMany(cls.LIMIT)
        editor = cls()
        editor.states = [tuple(members)]
        return editor

    @property
    def archive(self):
        """The archive as it is now."""
        return written(self.states[-1])

    @property
    def members(self):
        """The list of the members."""
        return [copy_of(member) for member in self.states[-1]]

    @property
    def offsets(self):
        """The list of the offsets of the members."""
        sizes = [len(packed(member)) for member in self.states[-1]]
        return [sum(sizes[:many]) for many in range(len(sizes))]

    def add(self, *members):
        """Append members; return the blocks that are written."""
        check_members(members)
        state = self.states[-1]
        if len(state) + len(members) > self.LIMIT:
            raise TooMany(self.LIMIT)
        copies = [copy_of(member) for member in members]
        return self.edit((*state, *copies))

    def exchange(self, index, member):
        """Put a member in the place of another one; return the blocks that are written."""
        self.check_index(index)
        check_members([member])
        state = self.states[-1]
        return self.edit((*state[:index], copy_of(member), *state[index + 1 :]))

    def take_out(self, index):
        """Remove a member; return the blocks that are written."""
        self.check_index(index)
        state = self.states[-1]
        return self.edit((*state[:index], *state[index + 1 :]))

    def undo(self):
        """Take back the last edit; return the blocks that are written."""
        if len(self.states) == 1:
            raise NoEdit()
        before = self.archive
        self.states.pop()
        return changed_blocks(before, self.archive)

    def check_index(self, thing):
        """Raise `NoIndex` if a value is not the index of a member."""
        if not is_integer_within(thing, 0, len(self) - 1):
            raise NoIndex(thing)

    def edit(self, state):
        """Have these members from now on; return the blocks that are written."""
        before = self.archive
        self.states.append(state)
        return changed_blocks(before, self.archive)


def changed_blocks(before, after):
    """Return the list of the blocks of an archive that another one has not in their place."""
    found = []
    for index in range(len(after) // BLOCK_SIZE):
        start = index * BLOCK_SIZE
        if before[start : start + BLOCK_SIZE] != after[start : start + BLOCK_SIZE]:
            found.append(index)
    return found
