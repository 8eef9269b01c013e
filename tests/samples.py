"""What several tests use: archives built without the program, and values."""

import unittest

from tarhouse.members import Directory, File, Link, Sparse, Symlink

LONG = "././@LongLink"
CHARACTERS = {File: "0", Sparse: "S", Directory: "5", Symlink: "2", Link: "1"}
ANY = [
    None, True, False, 0, 1, -1, 10 ** 59, "", "a", "a/b", b"", b"a", [], (), {}, [1, [2]], (1, (2,)),
    {"a": [1]}, File("a", b"x"), [Directory("a")],
]


class Raising(unittest.TestCase):
    def raises(self, error, function, *given, **fields):
        """Check that a call raises an error with just these fields."""
        with self.assertRaises(error) as caught:
            function(*given)
        for field, value in fields.items():
            self.assertEqual(getattr(caught.exception, field), value)
            self.assertIs(type(getattr(caught.exception, field)), type(value))


def text(string):
    """A text field of 100 bytes."""
    return (string.encode() + bytes(300))[:100] if len(string) < 100 else string[:100].encode()


def octal(number, size):
    """An octal field."""
    digits = []
    for _ in range(size - 1):
        digits.insert(0, b"01234567"[number % 8])
        number //= 8
    return bytes(digits) + b"\x00"


FIELDS = {
    "name": slice(0, 100), "mode": slice(100, 108), "owner": slice(108, 116), "group": slice(116, 124),
    "size": slice(124, 136), "time": slice(136, 148), "checksum": slice(148, 156), "kind": slice(156, 157),
    "target": slice(157, 257), "magic": slice(257, 265), "rest": slice(265, 512),
}


def block(fields, right_sum=True):
    """A block with these fields; the others are those of an empty file `n`."""
    given = {
        "name": text("n"), "mode": octal(0, 8), "owner": octal(0, 8), "group": octal(0, 8),
        "size": octal(0, 12), "time": octal(0, 12), "checksum": b" " * 8, "kind": b"0",
        "target": bytes(100), "magic": b"ustar\x0000", "rest": bytes(247),
    }
    given.update(fields)
    made = b"".join(given[name] for name in FIELDS)
    assert len(made) == 512
    if right_sum and "checksum" not in fields:
        total = sum(made)
        made = made[:148] + b"%06o\x00 " % total + made[156:]
    return made


def full(data):
    """Data, with zero bytes up to the end of a block."""
    while len(data) % 512:
        data += b"\x00"
    return data


def sparse_map(*numbers):
    """The block with a map of these numbers."""
    return full(b"".join(b"%d\n" % number for number in numbers))


def long_part(kind, string):
    """A long part."""
    size = octal(len(string) + 1, 12)
    return block({"name": text(LONG), "kind": kind.encode(), "size": size}) + full(string.encode() + b"\x00")


def stored(member):
    """The stored bytes of a member."""
    if isinstance(member, Sparse):
        numbers = [member.size, len(member.pieces)]
        for offset, data in member.pieces:
            numbers += [offset, len(data)]
        return sparse_map(*numbers) + b"".join(data for _, data in member.pieces)
    return getattr(member, "data", b"")


def packed(member):
    """The blocks of a member."""
    target = getattr(member, "target", "")
    data = stored(member)
    made = b""
    if len(target) > 100:
        made += long_part("K", target)
    if len(member.name) > 100:
        made += long_part("L", member.name)
    made += block({
        "name": text(member.name), "mode": octal(member.mode, 8), "size": octal(len(data), 12),
        "time": octal(member.time, 12), "kind": CHARACTERS[type(member)].encode(), "target": text(target),
    })
    return made + full(data)


def archive(members):
    """An archive."""
    return b"".join(packed(member) for member in members) + bytes(1024)


# The longest map: pieces of 100 bytes and of 10 bytes, all but six of them from 1000 on.
LENGTHS = [100] * 35 + [10] * 15
STARTS = [394 + sum(LENGTHS[:k]) + k for k in range(50)]
LONGEST_MAP = Sparse("m", 4096, *[(start, b"m" * many) for start, many in zip(STARTS, LENGTHS)])

# Members of all kinds and at the bounds of what they may have.
MEMBERS = [
    File("a/b", b"\x01\x02\x03", time=7),
    Link("c", "a/b"),
    Directory("a", mode=448),
    Symlink("s", "a/../b//", mode=4095, time=8589934591),
    File("f0", b"", mode=0, time=0),
    File("f1", b"\x00"),
    File("f511", b"x" * 511),
    File("f512", b"y" * 512),
    File("f513", b"z" * 513),
    File("f4096", bytes(range(256)) * 16, mode=4095),
    File("n" * 99, b"n"),
    File("n" * 100, b"n"),
    File("n" * 101, b"n"),
    File("n" * 250, bytes(600)),
    Directory("d/" * 125),
    Directory("d/" * 50),
    Symlink("s" * 100, "t" * 100),
    Symlink("s" * 101, "t" * 100),
    Symlink("s" * 100, "t" * 101),
    Symlink("s" * 101, "t" * 101),
    Symlink("s" * 250, "t" * 250),
    Link("l" * 250, "/" * 250, mode=1, time=1),
    Link("l", "." * 101),
    Sparse("p", 0),
    Sparse("p", 4096),
    Sparse("p", 5, (1, b"\x09")),
    Sparse("p", 4096, (0, b"q" * 4096)),
    Sparse("p", 4096, (0, b"q"), (4000, b"r" * 96)),
    Sparse("p", 4096, *[(2 * k, bytes([k])) for k in range(50)]),
    Sparse("p", 1024, (0, b"\x00" * 512), (513, b"\x00" * 511)),
    Sparse("p" * 101, 7, (6, b"0"), mode=0, time=3),
    LONGEST_MAP,
]
