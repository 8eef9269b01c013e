"""Writing archives."""

from tarhouse.blocks import BLOCK_SIZE, padded
from tarhouse.errors import Closed, TooMany
from tarhouse.headers import LONG_NAME, TEXT_SIZE, header
from tarhouse.maps import map_block
from tarhouse.members import File, Sparse, check_members, target_of

KIND_CHARACTERS = {"file": "0", "sparse": "S", "directory": "5", "symlink": "2", "link": "1"}
END_SIZE = 1024


def written(members):
    """Return the archive with these members."""
    return b"".join([packed(member) for member in members]) + bytes(END_SIZE)


def blocks_of(member):
    """Return how many blocks a member has in an archive."""
    return len(packed(member)) // BLOCK_SIZE


def packed(member):
    """Return the blocks of a member."""
    target = target_of(member)
    stored = stored_bytes(member)
    head = header(
        KIND_CHARACTERS[member.KIND],
        member.name,
        mode=member.mode,
        size=len(stored),
        time=member.time,
        target=target,
    )
    return long_part("K", target) + long_part("L", member.name) + head + padded(stored)


def stored_bytes(member):
    """Return the bytes that are stored behind the header of a member."""
    if isinstance(member, File):
        return member.data
    if isinstance(member, Sparse):
        spans = [(offset, len(data)) for offset, data in member.pieces]
        return map_block(member.size, spans) + b"".join([piece[1] for piece in member.pieces])
    return b""


def long_part(kind, text):
    """Return the long part for a text, and nothing for a short one."""
    if len(text) <= TEXT_SIZE:
        return b""
    stored = text.encode("ascii") + b"\x00"
    return header(kind, LONG_NAME, size=len(stored)) + padded(stored)


class Writer:
    """An archive that grows until it is closed."""

    LIMIT = 100

    def __init__(self):
        # The blocks are kept in place of the members: a caller still has these.
        self.parts = []
        self.is_closed = False

    def __len__(self):
        return len(self.parts)

    def __enter__(self):
        return self

    def __exit__(self, kind, value, trace):
        self.is_closed = True

    @property
    def archive(self):
        """The archive of what has been added."""
        return b"".join(self.parts) + bytes(END_SIZE)

    def add(self, *members):
        """Add members, and return the list of their offsets."""
        if self.is_closed:
            raise Closed()
        check_members(members)
        if len(self.parts) + len(members) > self.LIMIT:
            raise TooMany(self.LIMIT)
        end = sum([len(part) for part in self.parts])
        offsets = []
        for member in members:
            part = packed(member)
            offsets.append(end)
            end += len(part)
            self.parts.append(part)
        return offsets

    def close(self):
        """Close the writer, and return the archive."""
        if self.is_closed:
            raise Closed()
        self.is_closed = True
        return self.archive

    def fill(self, function):
        """Call a function with the writer, close it, and return the archive."""
        with self:
            function(self)
        return self.archive
