"""Reading archives, also in pieces, torn or damaged."""

from tarhouse.blocks import BLOCK_SIZE
from tarhouse.checks import is_integer_within
from tarhouse.errors import Closed, NoData, NoOffset, Torn, Wrong
from tarhouse.scanning import Scanner


def scan(data, *, offset=0):
    """Return what is read from an offset on, with the offsets, and the trouble."""
    check_source(data, offset)
    scanner = Scanner(offset)
    found = scanner.take(data[offset:])
    if scanner.wrong != "":
        return found, ("wrong", scanner.place, scanner.wrong)
    if not scanner.is_over():
        return found, ("torn", scanner.start)
    return found, None


def read(data):
    """Return the list of the members of an archive."""
    check_source(data, 0)
    scanner = Scanner(0)
    found = scanner.take(data)
    check_end(scanner)
    return [member for offset, member in found]


def each(data, *, offset=0):
    """Yield the members from an offset on."""
    check_source(data, offset)
    scanner = Scanner(offset)
    for at in range(offset, len(data), BLOCK_SIZE):
        found = scanner.take(data[at : at + BLOCK_SIZE])
        for row in found:
            yield row[1]
    check_end(scanner)


def check_data(thing):
    """Raise `NoData` if a value is not data."""
    if not isinstance(thing, bytes):
        raise NoData(thing)


def check_source(data, offset):
    """Raise an error if values are not data and an offset within them."""
    check_data(data)
    if not is_integer_within(offset, 0, len(data)):
        raise NoOffset(offset)


def check_end(scanner):
    """Raise the trouble of what was read, if there is one."""
    if scanner.wrong != "":
        raise Wrong(scanner.place, scanner.wrong)
    if not scanner.is_over():
        raise Torn(scanner.start)


class Reader:
    """An archive that comes in pieces."""

    def __init__(self):
        self.scanner = Scanner(0)
        self.many = 0
        self.is_closed = False

    @property
    def trouble(self):
        """The wrong place that was met, or None."""
        if self.scanner.wrong == "":
            return None
        return ("wrong", self.scanner.place, self.scanner.wrong)

    @property
    def is_ended(self):
        """Whether the two zero blocks came."""
        return self.scanner.zeros == 2

    @property
    def waiting(self):
        """The number of bytes that have come since the last complete member."""
        scanner = self.scanner
        if scanner.wrong != "" or scanner.zeros == 2:
            return 0
        return scanner.at + len(scanner.rest) - scanner.start

    def feed(self, data):
        """Take the next piece of data; return the members that are complete now."""
        if self.is_closed:
            raise Closed()
        check_data(data)
        found = self.scanner.take(data)
        self.many += len(found)
        return [member for offset, member in found]

    def finish(self):
        """Close the reader; return the number of members that it has read."""
        if self.is_closed:
            raise Closed()
        check_end(self.scanner)
        self.is_closed = True
        return self.many
