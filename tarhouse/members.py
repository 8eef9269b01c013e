"""Names, paths, and the five kinds of members."""

from tarhouse.checks import is_integer_within
from tarhouse.errors import NoData, NoMember, NoMode, NoName, NoPieces, NoSize, NoTime

NAME_CHARACTERS = "abcdefghijklmnopqrstuvwxyz0123456789._-/"
MOST_CHARACTERS = 250
NO_PARTS = ("", ".", "..")
MOST_BYTES = 4096
MOST_PIECES = 50
LAST_MODE = 4095
LAST_TIME = 8589934591


def is_name(thing):
    """Return whether any value is a name."""
    if not isinstance(thing, str) or not 1 <= len(thing) <= MOST_CHARACTERS:
        return False
    return all([character in NAME_CHARACTERS for character in thing])


def is_path(thing):
    """Return whether any value is a path."""
    if not is_name(thing):
        return False
    return not any([part in NO_PARTS for part in thing.split("/")])


def is_data(thing):
    """Return whether any value is the data of a file."""
    return isinstance(thing, bytes) and len(thing) <= MOST_BYTES


def is_size(thing):
    """Return whether any value is the size of a sparse file."""
    return is_integer_within(thing, 0, MOST_BYTES)


def is_mode(thing):
    """Return whether any value is a mode."""
    return is_integer_within(thing, 0, LAST_MODE)


def is_time(thing):
    """Return whether any value is a time."""
    return is_integer_within(thing, 0, LAST_TIME)


def are_pieces(size, pieces):
    """Return whether these are pieces of a sparse file of this size."""
    if not all([is_piece(piece) for piece in pieces]):
        return False
    return are_spans(size, [(offset, len(data)) for offset, data in pieces])


def is_piece(thing):
    """Return whether a value is an integer with data, wherever these stand."""
    if not isinstance(thing, tuple) or len(thing) != 2:
        return False
    # No piece begins behind the greatest size, whatever the size is.
    return is_integer_within(thing[0], 0, MOST_BYTES) and isinstance(thing[1], bytes)


def are_spans(size, spans):
    """Return whether pieces with these offsets and lengths fit into a size."""
    if len(spans) > MOST_PIECES:
        return False
    least = 0
    for offset, length in spans:
        if offset < least or length < 1 or offset + length > size:
            return False
        # One byte stays free: pieces that touch would be one piece.
        least = offset + length + 1
    return True


def check_name(thing):
    """Raise `NoName` if a value is not a name."""
    if not is_name(thing):
        raise NoName(thing)


def check_data(thing):
    """Raise `NoData` if a value is not the data of a file."""
    if not is_data(thing):
        raise NoData(thing)


def check_pieces(size, pieces):
    """Raise `NoSize` or `NoPieces` if a sparse file cannot have these."""
    if not is_size(size):
        raise NoSize(size)
    if not are_pieces(size, pieces):
        raise NoPieces(pieces)


def check_mode_and_time(mode, time):
    """Raise `NoMode` or `NoTime` if no member can have these."""
    if not is_mode(mode):
        raise NoMode(mode)
    if not is_time(time):
        raise NoTime(time)


class Member:
    """A member of an archive: an object of one of the classes below."""


class File(Member):
    """A file with its data."""

    KIND = "file"

    def __init__(self, name, data, *, mode=420, time=0):
        check_name(name)
        check_data(data)
        check_mode_and_time(mode, time)
        self.name = name
        self.data = data
        self.mode = mode
        self.time = time

    def __eq__(self, other):
        return (
            isinstance(other, File)
            and self.name == other.name
            and self.data == other.data
            and self.mode == other.mode
            and self.time == other.time
        )

    def __repr__(self):
        return f"File({self.name!r})"

    def content(self):
        """Return the content, which is the data."""
        return self.data


class Sparse(Member):
    """A file of which only the pieces are stored, as tuples `(offset, data)`."""

    KIND = "sparse"

    def __init__(self, name, size, *pieces, mode=420, time=0):
        check_name(name)
        check_pieces(size, pieces)
        check_mode_and_time(mode, time)
        self.name = name
        self.size = size
        self.pieces = pieces
        self.mode = mode
        self.time = time

    def __eq__(self, other):
        return (
            isinstance(other, Sparse)
            and self.name == other.name
            and self.size == other.size
            and self.pieces == other.pieces
            and self.mode == other.mode
            and self.time == other.time
        )

    def __repr__(self):
        return f"Sparse({self.name!r})"

    def content(self):
        """Return the content: the pieces, and zero bytes where there is none."""
        parts = []
        end = 0
        for offset, data in self.pieces:
            parts.append(bytes(offset - end))
            parts.append(data)
            end = offset + len(data)
        parts.append(bytes(self.size - end))
        return b"".join(parts)


class Directory(Member):
    """A directory."""

    KIND = "directory"

    def __init__(self, name, *, mode=493, time=0):
        check_name(name)
        check_mode_and_time(mode, time)
        self.name = name
        self.mode = mode
        self.time = time

    def __eq__(self, other):
        return (
            isinstance(other, Directory)
            and self.name == other.name
            and self.mode == other.mode
            and self.time == other.time
        )

    def __repr__(self):
        return f"Directory({self.name!r})"


class Symlink(Member):
    """A symbolic link with its target."""

    KIND = "symlink"

    def __init__(self, name, target, *, mode=511, time=0):
        check_name(name)
        check_name(target)
        check_mode_and_time(mode, time)
        self.name = name
        self.target = target
        self.mode = mode
        self.time = time

    def __eq__(self, other):
        return (
            isinstance(other, Symlink)
            and self.name == other.name
            and self.target == other.target
            and self.mode == other.mode
            and self.time == other.time
        )

    def __repr__(self):
        return f"Symlink({self.name!r})"


class Link(Member):
    """A hard link with its target."""

    KIND = "link"

    def __init__(self, name, target, *, mode=420, time=0):
        check_name(name)
        check_name(target)
        check_mode_and_time(mode, time)
        self.name = name
        self.target = target
        self.mode = mode
        self.time = time

    def __eq__(self, other):
        return (
            isinstance(other, Link)
            and self.name == other.name
            and self.target == other.target
            and self.mode == other.mode
            and self.time == other.time
        )

    def __repr__(self):
        return f"Link({self.name!r})"


def target_of(member):
    """Return the target of a member, empty if its kind has none."""
    if isinstance(member, (Symlink, Link)):
        return member.target
    return ""


def copy_of(member):
    """Return a new member that is equal to this one."""
    mode = member.mode
    time = member.time
    if isinstance(member, File):
        return File(member.name, member.data, mode=mode, time=time)
    if isinstance(member, Sparse):
        return Sparse(member.name, member.size, *member.pieces, mode=mode, time=time)
    if isinstance(member, Directory):
        return Directory(member.name, mode=mode, time=time)
    if isinstance(member, Symlink):
        return Symlink(member.name, member.target, mode=mode, time=time)
    return Link(member.name, member.target, mode=mode, time=time)


def check_members(things):
    """Raise `NoMember` with the first value that is not a member."""
    for thing in things:
        if not isinstance(thing, (File, Sparse, Directory, Symlink, Link)):
            raise NoMember(thing)
