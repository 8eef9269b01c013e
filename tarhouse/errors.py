"""The errors that the modules raise, each with its fields as attributes.

A field that holds lists is copied: what a caller does later to the value that
was refused does not change what the error tells. Python itself keeps the
arguments of an error for its message, so no class passes them to its base.
"""

from tarhouse.copies import copied


class NoBlob(TypeError):
    """A value is no list or tuple of integers from 0 to 255."""

    def __init__(self, numbers):
        self.numbers = copied(numbers)


class NoData(TypeError):
    """A value is no bytes object, or one that is too long."""

    def __init__(self, thing):
        self.thing = copied(thing)


class NoBlock(TypeError):
    """A value is no block."""

    def __init__(self, thing):
        self.thing = copied(thing)


class NoMember(TypeError):
    """A value is no member."""

    def __init__(self, thing):
        self.thing = copied(thing)


class NoHouse(TypeError):
    """A value is no list of the entries of a house."""

    def __init__(self, given):
        self.given = copied(given)


class NoName(ValueError):
    """A value is no name."""

    def __init__(self, name):
        self.name = copied(name)


class NoMode(ValueError):
    """A value is no mode of a member."""

    def __init__(self, mode):
        self.mode = copied(mode)


class NoSize(ValueError):
    """A value is no size of a sparse file."""

    def __init__(self, size):
        self.size = copied(size)


class NoPieces(ValueError):
    """A tuple does not hold the pieces of a sparse file."""

    def __init__(self, pieces):
        self.pieces = copied(pieces)


class Torn(ValueError):
    """The data end before the archive does."""

    def __init__(self, offset):
        self.offset = copied(offset)


class Wrong(ValueError):
    """The data contain a block that writing does not give."""

    def __init__(self, offset, field):
        self.offset = copied(offset)
        self.field = copied(field)


class NoText(ValueError):
    """A value is no text of a member."""

    def __init__(self, text):
        self.text = copied(text)


class NoCommand(ValueError):
    """A value is no command of the desk."""

    def __init__(self, command):
        self.command = copied(command)


class NoTime(OverflowError):
    """A value is no time of a member."""

    def __init__(self, time):
        self.time = copied(time)


class TooMany(OverflowError):
    """There would be more members than the limit."""

    def __init__(self, limit):
        self.limit = copied(limit)


class Closed(RuntimeError):
    """A writer or reader is closed."""

    def __init__(self):
        pass


class Refused(RuntimeError):
    """Unpacking refuses a member."""

    def __init__(self, index, word):
        self.index = copied(index)
        self.word = copied(word)


class NoOffset(IndexError):
    """A value is no offset within the data."""

    def __init__(self, offset):
        self.offset = copied(offset)


class NoIndex(IndexError):
    """A value is not the index of a member."""

    def __init__(self, index):
        self.index = copied(index)


class NoPath(KeyError):
    """What is asked for does not stand at this path."""

    def __init__(self, path):
        self.path = copied(path)


class NoEdit(LookupError):
    """There is no edit to take back."""

    def __init__(self):
        pass
