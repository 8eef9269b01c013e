"""Headers: the block with which each member and each long part begins."""

from tarhouse.blocks import BLOCK_SIZE
from tarhouse.errors import NoBlock

TEXT_SIZE = 100
LONG_NAME = "././@LongLink"
MAGIC = b"ustar\x0000"
REST_SIZE = 247


def header(kind, name, *, mode=0, size=0, time=0, target=""):
    """Return the block with these fields and their checksum."""
    front = b"".join(
        [
            text_field(name),
            octal_field(mode, 8),
            octal_field(0, 8),
            octal_field(0, 8),
            octal_field(size, 12),
            octal_field(time, 12),
        ]
    )
    back = b"".join([kind.encode("ascii"), text_field(target), MAGIC, bytes(REST_SIZE)])
    return front + checksum_field(front + bytes(8) + back) + back


def checksum(block):
    """Return the checksum of a block, whatever its field for it contains."""
    if not isinstance(block, bytes) or len(block) != BLOCK_SIZE:
        raise NoBlock(block)
    return sum(block[:148]) + sum(b" " * 8) + sum(block[156:])


def checksum_field(block):
    """Return what the field for the checksum of a block has to contain."""
    return f"{checksum(block):06o}".encode("ascii") + b"\x00 "


def text_field(text):
    """Return the text field with as much of a text as it holds."""
    data = text[:TEXT_SIZE].encode("ascii")
    return data + bytes(TEXT_SIZE - len(data))


def octal_field(number, size):
    """Return the octal field of this size with a number."""
    return f"{number:o}".zfill(size - 1).encode("ascii") + b"\x00"
