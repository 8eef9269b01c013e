"""Reading an archive block by block."""

from tarhouse.blocks import BLOCK_SIZE
from tarhouse.fields import LONG_KINDS, Heading, text_in, wrong_field
from tarhouse.maps import read_map
from tarhouse.members import Directory, File, Link, Sparse, Symlink, is_name


class Scanner:
    """An archive of which the data come one after the other."""

    def __init__(self, offset):
        # Where the member that is read begins, its header, and the next block.
        self.start = offset
        self.place = offset
        self.at = offset
        # What has come of the next block.
        self.rest = bytes()
        # The header of which stored bytes are missing, and those that came.
        self.heading = None
        self.stored = bytes()
        # The texts of the long parts in front of the next header.
        self.long_name = ""
        self.long_target = ""
        self.zeros = 0
        self.wrong = ""

    def is_over(self):
        """Return whether further data are not looked at."""
        return self.wrong != "" or self.zeros == 2

    def take(self, data):
        """Take the next data; return `(offset, member)` for each member that they complete."""
        found = []
        if self.is_over():
            return found
        data = self.rest + data
        end = 0
        while not self.is_over() and end + BLOCK_SIZE <= len(data):
            found.extend(self.take_block(data[end : end + BLOCK_SIZE]))
            end += BLOCK_SIZE
        self.rest = data[end:]
        return found

    def take_block(self, block):
        """Take the next block; return the member that it completes, if any, in a list."""
        place = self.at
        self.at += BLOCK_SIZE
        if self.heading is not None:
            return self.take_stored(block)
        if self.zeros == 0:
            self.place = place
            return self.take_header(block)
        if block == bytes(BLOCK_SIZE):
            self.zeros = 2
        else:
            self.wrong = "end"
        return []

    def take_header(self, block):
        """Take a header, or the first zero block."""
        if block == bytes(BLOCK_SIZE) and self.long_name == "" and self.long_target == "":
            self.zeros = 1
            return []
        heading = Heading(block)
        self.wrong = wrong_field(block, heading, self.long_name, self.long_target)
        if self.wrong != "":
            return []
        self.heading = heading
        self.stored = bytes()
        return self.ended()

    def take_stored(self, block):
        """Take a block with stored bytes."""
        self.stored = self.stored + block
        self.wrong = self.wrong_stored()
        if self.wrong != "":
            return []
        return self.ended()

    def wrong_stored(self):
        """Return what is wrong with the stored bytes that came, empty if nothing is."""
        size = self.heading.size
        if self.heading.kind in LONG_KINDS:
            text = text_in(self.stored)
            return "" if is_name(text) and len(text) == size - 1 else "text"
        if self.heading.kind == "S" and read_map(self.stored[:BLOCK_SIZE], size) is None:
            return "map"
        padding = self.stored[size:]
        return "" if padding == bytes(len(padding)) else "padding"

    def ended(self):
        """End the header if all its stored bytes came; return its member in a list."""
        heading = self.heading
        if len(self.stored) < heading.size:
            return []
        self.heading = None
        if heading.kind == "K":
            self.long_target = text_in(self.stored)
            return []
        if heading.kind == "L":
            self.long_name = text_in(self.stored)
            return []
        found = [(self.start, self.member_of(heading))]
        self.start = self.at
        self.long_name = ""
        self.long_target = ""
        return found

    def member_of(self, heading):
        """Return the member with a header and the stored bytes."""
        name = heading.name if self.long_name == "" else self.long_name
        target = heading.target if self.long_target == "" else self.long_target
        if heading.kind == "0":
            return File(name, self.stored[: heading.size], mode=heading.mode, time=heading.time)
        if heading.kind == "5":
            return Directory(name, mode=heading.mode, time=heading.time)
        if heading.kind == "2":
            return Symlink(name, target, mode=heading.mode, time=heading.time)
        if heading.kind == "1":
            return Link(name, target, mode=heading.mode, time=heading.time)
        size, spans = read_map(self.stored[:BLOCK_SIZE], heading.size)
        pieces = cut(self.stored[BLOCK_SIZE:], spans)
        return Sparse(name, size, *pieces, mode=heading.mode, time=heading.time)


def cut(data, spans):
    """Return the pieces with these offsets and lengths, of which data consist."""
    pieces = []
    end = 0
    for offset, length in spans:
        pieces.append((offset, data[end : end + length]))
        end += length
    return pieces
