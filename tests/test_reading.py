"""Points [3], [8] and [9], and the functions of the section "Reading"."""

import random
import unittest

from model_reading import scanned
from samples import ANY, LONG, MEMBERS, archive, block, full, long_part, octal, packed, sparse_map, text
from tarhouse.blobs import blob
from tarhouse.errors import NoData, NoOffset, Torn, Wrong
from tarhouse.members import Directory, File, Link, Sparse, Symlink
from tarhouse.reading import Reader, each, read, scan
from tarhouse.writing import written

A = File("a/b", blob([1, 2, 3]), time=7)
B = Link("c", "a/b")
D = Directory("a", mode=448)
# All kinds, and both long parts.
FEW = [A, Symlink("s" * 101, "t" * 101), Sparse("p", 9, (1, b"xy"), (4, b"z")), D, B]
NO_DATA = [thing for thing in ANY if not isinstance(thing, bytes)]
END = bytes(1024)


def stepped(data, **given):
    """The members that `each` yields, and the error that ends it, if any."""
    found = []
    steps = each(data, **given)
    while True:
        try:
            found.append(next(steps))
        except StopIteration:
            return found, None
        except (Torn, Wrong) as error:
            return found, error


def trouble_of(error):
    """The trouble that an error tells."""
    if error is None:
        return None
    if isinstance(error, Torn):
        return ("torn", error.offset)
    return ("wrong", error.offset, error.field)


class Case(unittest.TestCase):
    def told(self, data, found, trouble, offset=0):
        """Check what all functions say of data, from an offset on."""
        self.assertEqual(scan(data, offset=offset), (found, trouble))
        members, error = stepped(data, offset=offset)
        self.assertEqual((members, trouble_of(error)), ([member for _, member in found], trouble))
        if offset > 0:
            return
        if trouble is None:
            self.assertEqual(read(data), [member for _, member in found])
            return
        with self.assertRaises(Torn if trouble[0] == "torn" else Wrong) as caught:
            read(data)
        self.assertEqual(trouble_of(caught.exception), trouble)

    def wrong(self, data, field, offset=0):
        """Check data that are wrong, alone and behind a member."""
        for more in (b"", b"\x01", END):
            self.told(data + more, [], ("wrong", offset, field))
            front = packed(A) + packed(B)
            self.told(front + data + more, [(0, A), (1024, B)], ("wrong", 1536 + offset, field))


class Right(Case):
    def test_each_member(self):
        for member in MEMBERS:
            with self.subTest(member=member):
                self.told(written([member]), [(0, member)], None)
                self.assertEqual(vars(read(written([member]))[0]), vars(member))

    def test_all_members(self):
        self.assertEqual(read(written(MEMBERS)), MEMBERS)
        self.assertEqual(read(written(MEMBERS[::-1])), MEMBERS[::-1])
        self.assertEqual(written(read(archive(MEMBERS))), archive(MEMBERS))

    def test_offsets(self):
        data = written(MEMBERS)
        found, trouble = scan(data)
        self.assertIsNone(trouble)
        self.assertEqual([member for _, member in found], MEMBERS)
        end = 0
        for k, (offset, member) in enumerate(found):
            self.assertEqual(offset, end)
            end += len(packed(member))
            self.told(data, found[k:], None, offset)
        self.told(data, [], None, end)

    def test_offsets_that_are_no_multiples(self):
        for before in (1, 511, 512, 513, 700):
            found = [(before, A), (before + 1024, B)]
            self.told(b"\xff" * before + written([A, B]), found, None, before)

    def test_no_members(self):
        self.told(written([]), [], None)
        self.told(END, [], None)

    def test_bytes_behind_the_end(self):
        for more in (b"\x00", b"x", bytes(512), b"\xff" * 511, b"\xff" * 1024, written([B]), bytes(9999)):
            self.told(written([A]) + more, [(0, A)], None)
            self.told(END + more, [], None)

    def test_behind_the_end_of_two_archives(self):
        data = written([A]) + written([B])
        self.told(data, [(0, A)], None)
        self.told(data, [(2048, B)], None, 2048)
        self.told(data, [], None, 1024)
        self.told(data, [], ("wrong", 1536, "end"), 1536)

    def test_the_same_name_twice(self):
        self.told(written([A, A, D, A]), [(0, A), (1024, A), (2048, D), (2560, A)], None)

    def test_what_is_returned_is_new(self):
        data = written([A, B])
        found, _ = scan(data)
        found.clear()
        self.assertEqual(scan(data)[0], [(0, A), (1024, B)])
        self.assertIs(type(scan(data)), tuple)
        self.assertIs(type(scan(data)[0][0]), tuple)
        self.assertIs(type(read(data)), list)


class Cut(Case):
    def test_empty_data(self):
        self.told(b"", [], ("torn", 0))

    def test_every_length(self):
        data = written(FEW)
        whole, _ = scan(data)
        ends = [offset for offset, _ in whole[1:]] + [len(data) - 1024]
        for length in range(len(data)):
            many = sum(end <= length for end in ends)
            start = ends[many - 1] if many else 0
            self.assertEqual(scan(data[:length]), (whole[:many], ("torn", start)))
            if length % 128 in (0, 1, 127):
                self.told(data[:length], whole[:many], ("torn", start))

    def test_every_offset(self):
        data = written([A, B])
        for length in (0, 1, 1023, 1024, 1025, 1536, 2047, 2048, 2559):
            for offset in range(0, length + 1, 512):
                self.told(data[:length], *scanned(data[:length], offset), offset)

    def test_at_the_end_of_the_data(self):
        data = written([A])
        for length in (0, 5, 1024, 2048):
            self.told(data[:length], [], ("torn", length), length)

    def test_after_one_zero_block(self):
        for many in (0, 1, 511, 512, 513, 1023):
            self.told(packed(A) + bytes(many), [(0, A)], ("torn", 1024))


class Headers(Case):
    GOOD = {"name": text("n"), "mode": octal(420, 8)}

    def alone(self, field, value):
        """Check a header in which one field is wrong, of each kind that has no long part."""
        for kind in "0521":
            fields = {"kind": kind.encode(), "target": text("t") if kind in "12" else bytes(100), field: value}
            with self.subTest(field=field, value=value, kind=kind):
                self.wrong(block(fields), field)

    def test_the_good_one(self):
        self.told(block(self.GOOD) + END, [(0, File("n", b""))], None)

    def test_name(self):
        for value in (bytes(100), text("N"), text("a b"), text("a\n"), text("a")[:50] + b"b" + bytes(49),
                      b"\x00" + text("a")[:99], b"a" * 98 + b"\x00a", b"\xe9" + bytes(99), b"n" * 99 + b"\x80",
                      text("./@LongLink"), text(LONG + "x"), text(LONG.lower()), b"n" + bytes(98) + b"n",
                      text(" "), text("a%"), text("a~"), b"\xff" * 100):
            self.alone("name", value)

    def test_names_that_are_right(self):
        for name in ("/", "..", "n" * 99, "n" * 100, "a//b"):
            self.told(block({"name": text(name)}) + END, [(0, File(name, b"", mode=0))], None)

    def test_mode(self):
        for value in (octal(4096, 8), octal(8 ** 7 - 1, 8), bytes(8), b"0000644 ", b"000644\x00\x00", b"     644",
                      b" 000644\x00", b"0000648\x00", b"00006440", b"0000644\xff", b"-000644\x00", b"+000644\x00",
                      b"0_00644\x00", b"\x80000000\x00", b"0o00644\x00", b"000 644\x00", b"0000\x00644"):
            self.alone("mode", value)
        self.told(block({"mode": octal(4095, 8)}) + END, [(0, File("n", b"", mode=4095))], None)

    def test_owner_and_group(self):
        for field in ("owner", "group"):
            for value in (octal(1, 8), octal(8 ** 7 - 1, 8), bytes(8), b"000000\x00\x00", b"00000000", b"000000 \x00",
                          b"       \x00", b"0000009\x00", b"1000000\x00"):
                self.alone(field, value)

    def test_size(self):
        for value in (bytes(12), b"00000000000 ", b"0000000000\x00\x00", b" 0000000000\x00", b"00000000008\x00",
                      b"000000000000", b"0x000000000\x00", b"\x80" + bytes(11), b"00000000 00\x00"):
            self.alone("size", value)

    def test_time(self):
        for value in (bytes(12), b"00000000000 ", b"0000000000\x00\x00", b" 0000000000\x00", b"00000000008\x00",
                      b"000000000000", b"777777777777", b"\x80" + bytes(10) + b"\x01", b"-0000000001\x00"):
            self.alone("time", value)
        self.told(block({"time": b"77777777777\x00"}) + END, [(0, File("n", b"", mode=0, time=8589934591))], None)

    def test_kind(self):
        for code in range(256):
            if bytes([code]) not in (b"0", b"S", b"5", b"2", b"1"):
                self.wrong(block({"kind": bytes([code])}), "kind")

    def test_target(self):
        for kind in b"05":
            for value in (text("t"), b"\x00t" + bytes(98), bytes(99) + b"t", b" " + bytes(99), b"\xff" * 100,
                          text(LONG)):
                self.wrong(block({"kind": bytes([kind]), "target": value}), "target")
        self.wrong(block({"kind": b"S", "size": octal(512, 12), "target": text("t")}), "target")
        for kind in b"12":
            for value in (bytes(100), text("T"), text(LONG), b"t\x00t" + bytes(97), b"\x00" + b"t" * 99,
                          b"t" * 99 + b"\xff", b"t" * 98 + b"\x00t", text("t "), b"\x80" + bytes(99)):
                self.wrong(block({"kind": bytes([kind]), "target": value}), "target")

    def test_magic(self):
        for value in (bytes(8), b"ustar  \x00", b"ustar\x00\x00\x00", b"ustar\x0001", b"Ustar\x0000", b"ustar 00"):
            self.alone("magic", value)

    def test_rest(self):
        for place in (0, 1, 100, 245, 246):
            for byte in (b"0", b" ", b"\xff"):
                self.alone("rest", bytes(place) + byte + bytes(246 - place))

    def test_checksum(self):
        right = block({})[148:156]
        for value in (bytes(8), b" " * 8, right[:6] + b" \x00", right[:6] + b"\x00\x00", right[:6] + b"  ",
                      b"0" + right[:5] + b"\x00 ", right[:5] + b"\x00  ", b" " + right[1:], b"000000\x00 ",
                      right[:7] + b"0", b"%06o\x00 " % (int(right[:6], 8) + 1), b"%07o\x00" % int(right[:6], 8)):
            self.wrong(block({"checksum": value}), "checksum")

    def test_two_wrong_fields(self):
        # In the order in which they are looked at, each with a wrong value.
        order = [("name", b"N" + bytes(99)), ("mode", b"7777777\x00"), ("owner", b"1" * 8), ("group", b"1" * 8),
                 ("size", b"x" * 12), ("time", b"x" * 12), ("kind", b"x"), ("target", b"\xff" * 100),
                 ("magic", b"x" * 8), ("rest", b"x" * 247), ("checksum", b"x" * 8)]
        for k, (field, value) in enumerate(order):
            self.wrong(block({field: value}), field)
            for other, another in order[k + 1:]:
                self.wrong(block({field: value, other: another}), field)
        self.wrong(block(dict(order)), "name")

    def test_the_size_that_does_not_fit_comes_last(self):
        size = octal(4097, 12)
        self.wrong(block({"size": size}), "size")
        for field, value in (("name", bytes(100)), ("mode", b"x" * 8), ("owner", b"1" * 8), ("group", b"1" * 8),
                             ("time", b"x" * 12), ("kind", b"x"), ("target", b"\xff" * 100), ("magic", b"x" * 8),
                             ("rest", b"x" * 247), ("checksum", b"x" * 8)):
            self.wrong(block({"size": size, field: value}), field)
        self.wrong(block({"size": b"77777777777 ", "time": b"x" * 12}), "size")


class Sizes(Case):
    def sized(self, kind, size):
        fields = {"kind": kind.encode(), "size": octal(size, 12)}
        if kind in "KL":
            fields["name"] = text(LONG)
        if kind in "12":
            fields["target"] = text("t")
        return block(fields)

    def test_beyond_the_bounds(self):
        greatest = 8 ** 11 - 1
        for kind, sizes in {
            "0": [4097, 4608, greatest], "S": [0, 1, 511, 4609, greatest], "5": [1, 512, greatest],
            "2": [1, 512, greatest], "1": [1, 512, greatest], "K": [0, 1, 101, 252, 512, greatest],
            "L": [0, 1, 101, 252, 512, greatest],
        }.items():
            for size in sizes:
                with self.subTest(kind=kind, size=size):
                    self.wrong(self.sized(kind, size), "size")

    def test_within_the_bounds(self):
        for kind, sizes in {"0": [1, 512, 4096], "S": [512, 513, 4608], "K": [102, 251], "L": [102, 251]}.items():
            for size in sizes:
                self.told(self.sized(kind, size), [], ("torn", 0))
                self.told(packed(A) + self.sized(kind, size) + bytes(511), [(0, A)], ("torn", 1024))

    def test_files_at_the_bounds(self):
        for size in (0, 1, 4095, 4096):
            member = File("n", b"x" * size, mode=0)
            self.told(self.sized("0", size) + full(b"x" * size) + END, [(0, member)], None)

    def test_sparse_files_at_the_bounds(self):
        self.told(self.sized("S", 512) + sparse_map(4096, 0) + END, [(0, Sparse("n", 4096, mode=0))], None)
        data = b"x" * 4096
        member = Sparse("n", 4096, (0, data), mode=0)
        self.told(self.sized("S", 4608) + sparse_map(4096, 1, 0, 4096) + data + END, [(0, member)], None)


class LongParts(Case):
    """What may stand behind long parts; each header is right but for what is said."""

    NAME = "n" * 101
    TARGET = "t" * 101
    K = long_part("K", TARGET)
    L = long_part("L", NAME)

    def header(self, kind, name="n", target="", size=0, mode=0):
        return block({
            "kind": kind.encode(), "name": text(name), "target": text(target), "size": octal(size, 12),
            "mode": octal(mode, 8),
        })

    def test_right_ones(self):
        for kind, made in (("1", Link), ("2", Symlink)):
            self.told(self.K + self.header(kind, "n", self.TARGET) + END, [(0, made("n", self.TARGET, mode=0))], None)
            self.told(self.L + self.header(kind, self.NAME, "t") + END, [(0, made(self.NAME, "t", mode=0))], None)
            self.told(self.K + self.L + self.header(kind, self.NAME, self.TARGET) + END,
                      [(0, made(self.NAME, self.TARGET, mode=0))], None)
        self.told(self.L + self.header("5", self.NAME) + END, [(0, Directory(self.NAME, mode=0))], None)
        self.told(self.L + self.header("0", self.NAME) + END, [(0, File(self.NAME, b"", mode=0))], None)

    def test_names(self):
        for front in (self.L, self.K + self.L):
            for name in ("n", "n" * 99, "n" * 99 + "m", "m" + "n" * 99, "", LONG, "N" * 100):
                self.wrong(front + self.header("2", name, self.TARGET), "name", len(front))
        self.wrong(self.K + self.header("2", "", self.TARGET), "name", 1024)

    def test_no_long_part_behind_a_long_name(self):
        # The name has to be the first characters of the text, which `././@LongLink` is not.
        self.wrong(self.L + self.L, "name", 1024)
        self.wrong(self.L + self.K, "name", 1024)
        self.wrong(self.K + self.L + self.L, "name", 2048)
        self.wrong(self.K + self.L + self.K, "name", 2048)
        for front in (self.L, self.K + self.L):
            for kind in "0S521KL":
                for mode, size in ((0, 0), (0, 102), (493, 0), (493, 9999)):
                    target = self.TARGET if kind in "12" else ""
                    self.wrong(front + self.header(kind, LONG, target, mode=mode, size=size), "name", len(front))
        for kind in "KL":
            self.wrong(self.L + self.header(kind, self.NAME, size=102), "kind", 1024)
            self.wrong(self.K + self.L + self.header(kind, self.NAME, size=102), "kind", 2048)

    def test_no_long_target_behind_a_long_target(self):
        self.wrong(self.K + self.K, "kind", 1024)

    def test_kinds_behind_a_long_target(self):
        for kind in "0S5":
            self.wrong(self.K + self.header(kind, "n", size=512 if kind == "S" else 0), "kind", 1024)
            self.wrong(self.K + self.header(kind, "n", self.TARGET), "kind", 1024)
            self.wrong(self.K + self.L + self.header(kind, self.NAME), "kind", 2048)
            self.wrong(self.K + self.L + self.header(kind, self.NAME, self.TARGET), "kind", 2048)

    def test_targets(self):
        for kind in "12":
            for target in ("t", "t" * 99, "t" * 99 + "u", "u" + "t" * 99, "", "T" * 100):
                self.wrong(self.K + self.header(kind, "n", target), "target", 1024)
                self.wrong(self.K + self.L + self.header(kind, self.NAME, target), "target", 2048)
            self.wrong(self.L + self.header(kind, self.NAME), "target", 1024)
        self.wrong(self.K + self.header("L", LONG, self.TARGET, 102), "target", 1024)
        self.wrong(self.L + self.header("0", self.NAME, "t"), "target", 1024)

    def test_the_long_part_is_looked_at_like_any_header(self):
        for kind in "KL":
            right = {"name": text(LONG), "kind": kind.encode(), "size": octal(102, 12)}
            self.told(block(right), [], ("torn", 0))
            for field, value in (("name", text("././@longlink")), ("mode", octal(1, 8)), ("mode", octal(420, 8)),
                                 ("owner", octal(1, 8)), ("group", octal(1, 8)), ("size", b"x" * 12),
                                 ("time", octal(1, 12)), ("time", octal(8 ** 11 - 1, 12)), ("target", text("t")),
                                 ("target", text(self.TARGET)), ("magic", bytes(8)), ("rest", b"\x01" * 247),
                                 ("checksum", bytes(8)), ("size", octal(101, 12))):
                self.wrong(block(dict(right, **{field: value})), field)

    def test_kinds_of_long_parts(self):
        for code in range(256):
            kind = bytes([code])
            if kind not in (b"K", b"L"):
                self.wrong(block({"name": text(LONG), "kind": kind, "size": octal(102, 12)}), "kind")
        for kind in "KL":
            self.wrong(self.header(kind, "n", size=102), "kind")

    def test_a_zero_block_behind(self):
        for front in (self.K, self.L, self.K + self.L):
            self.wrong(front + bytes(512), "name", len(front))
            self.wrong(front + END, "name", len(front))

    def test_torn_behind(self):
        for front in (self.K, self.L, self.K + self.L):
            for length in (1, 511, 512, 513, 1023, 1024, len(front)):
                self.told(front[:length], [], ("torn", 0))
                self.told(packed(A) + front[:length], [(0, A)], ("torn", 1024))
            self.told(front + bytes(511), [], ("torn", 0))

    def test_a_long_part_is_for_one_member(self):
        data = packed(Link(self.NAME, self.TARGET)) + packed(B) + packed(Directory(self.NAME)) + END
        self.told(data, [(0, Link(self.NAME, self.TARGET)), (2560, B), (3072, Directory(self.NAME))], None)
        front = packed(Link(self.NAME, self.TARGET))
        self.told(front + self.header("1", self.NAME, ""), [(0, Link(self.NAME, self.TARGET))],
                  ("wrong", 2560, "target"))

    def test_long_parts_of_short_names(self):
        size = octal(101, 12)
        front = block({"name": text(LONG), "kind": b"L", "size": size}) + full(b"n" * 100 + b"\x00")
        self.wrong(front + self.header("0", "n" * 100), "size")


class Texts(Case):
    def texts(self, content, size, field):
        for kind in "KL":
            front = block({"name": text(LONG), "kind": kind.encode(), "size": octal(size, 12)})
            if field is None:
                self.told(front + content.ljust(512, b"\x00"), [], ("torn", 0))
            else:
                self.wrong(front + content.ljust(512, b"\x00"), field)

    def test_right_ones(self):
        for many in (101, 102, 249, 250):
            self.texts(b"x" * many, many + 1, None)
            self.texts(b"/" * many, many + 1, None)

    def test_wrong_characters(self):
        for byte in b" AZ\n@%~\x00\x7f\x80\xff":
            for place in (0, 50, 100):
                made = bytearray(b"x" * 101)
                made[place] = byte
                self.texts(bytes(made), 102, "text")

    def test_other_lengths(self):
        for many in (0, 1, 99, 100, 102, 103, 250, 251, 512):
            self.texts(b"x" * many, 102, "text")
        self.texts(b"x" * 249, 251, "text")
        self.texts(b"x" * 251, 251, "text")
        self.texts(b"x" * 511, 251, "text")

    def test_bytes_behind(self):
        for place in (101, 102, 103, 300, 511):
            for byte in (b"x", b"\x01", b"\xff"):
                content = (b"x" * 101 + bytes(411))[:place] + byte + bytes(511 - place)
                self.texts(content, 102, "text")

    def test_the_text_before_the_next_header(self):
        front = block({"name": text(LONG), "kind": b"L", "size": octal(102, 12)}) + full(b"X" * 101)
        self.wrong(front + b"\xff" * 512, "text")

    def test_the_header_before_its_text(self):
        front = block({"name": text(LONG), "kind": b"L", "size": octal(102, 12), "mode": octal(1, 8)})
        self.wrong(front + b"\xff" * 512, "mode")

    def test_only_complete_blocks(self):
        front = block({"name": text(LONG), "kind": b"L", "size": octal(102, 12)})
        self.told(front + b"\xff" * 511, [], ("torn", 0))


class Maps(Case):
    def mapped(self, content, data, field="map"):
        """Check a map, given as bytes, with data of this many bytes behind it."""
        front = block({"kind": b"S", "size": octal(512 + data, 12)})
        made = front + content.ljust(512, b"\x00")
        with self.subTest(content=content, data=data):
            self.assertEqual(len(made), 1024)
            if field is not None:
                # A wrong map is told before what belongs to it.
                self.wrong(made, field)
                self.wrong(made + full(b"x" * data), field)
                self.told(made[:-1], [], ("torn", 0))
            else:
                self.assertEqual(scan(made + full(b"x" * data) + END)[1], None)

    def test_right_ones(self):
        self.mapped(b"0\n0\n", 0, None)
        self.mapped(b"4096\n0\n", 0, None)
        self.mapped(b"10\n1\n0\n10\n", 10, None)
        self.mapped(b"10\n2\n0\n1\n9\n1\n", 2, None)
        self.mapped(b"1000\n1\n0\n1000\n", 1000, None)

    def test_leading_zeros(self):
        for content in (b"00\n0\n", b"010\n1\n0\n1\n", b"10\n01\n0\n1\n", b"10\n1\n00\n1\n", b"10\n1\n0\n01\n"):
            self.mapped(content, 1 if b"1\n" in content else 0)

    def test_line_feeds(self):
        for content in (b"10\n1\n0\n1", b"10\n1\n0 1\n", b"10\n1\n01\n", b"10 1 0 1\n", b"10\n\n1\n0\n1\n",
                        b"\n10\n1\n0\n1\n", b"10\n1\n0\n1\n\n", b"10\r\n1\n0\n1\n", b"10\n1\n0\n1\n" + b"\x00\n",
                        b"10\n1\n0\n1 \n"):
            self.mapped(content, 1)
        self.mapped(b"0\n0", 0)
        self.mapped(b"0\n", 0)
        self.mapped(b"0", 0)
        self.mapped(b"\n", 0)
        self.mapped(b"\n\n", 0)
        self.mapped(b"", 0)
        self.mapped(b"\x000\n0\n", 0)

    def test_other_characters(self):
        for byte in b"+-_.axX \x00\x7f\x80\xb2\xff\t":
            for content in (b"1?\n1\n0\n1\n", b"?\n1\n0\n1\n", b"10\n?\n0\n1\n", b"10\n1\n?\n1\n", b"10\n1\n0\n?\n",
                            b"10\n1\n0\n1\n?"):
                if byte != 0 or content[-1:] != b"?":
                    self.mapped(content.replace(b"?", bytes([byte])), 1)

    def test_the_number_of_numbers(self):
        for content in (b"10\n", b"10\n1\n", b"10\n1\n0\n", b"10\n1\n0\n1\n3\n", b"10\n1\n0\n1\n3\n1\n",
                        b"10\n2\n0\n1\n", b"10\n0\n0\n1\n", b"10\n2\n0\n1\n3\n"):
            for data in (0, 1, 2):
                self.mapped(content, data)
        self.mapped(b"10\n0\n5\n", 0)

    def test_pieces(self):
        self.mapped(b"10\n2\n0\n2\n2\n2\n", 4)
        self.mapped(b"10\n2\n0\n2\n1\n2\n", 4)
        self.mapped(b"10\n2\n0\n2\n0\n2\n", 4)
        self.mapped(b"10\n2\n5\n2\n0\n2\n", 4)
        self.mapped(b"10\n1\n0\n11\n", 11)
        self.mapped(b"10\n1\n10\n1\n", 1)
        self.mapped(b"10\n1\n11\n1\n", 1)
        self.mapped(b"10\n1\n9\n2\n", 2)
        self.mapped(b"10\n1\n0\n0\n", 0)
        self.mapped(b"10\n2\n0\n1\n5\n0\n", 1)
        self.mapped(b"0\n1\n0\n1\n", 1)

    def test_sizes(self):
        self.mapped(b"4097\n0\n", 0)
        self.mapped(b"4097\n1\n0\n1\n", 1)
        self.mapped(b"5000\n1\n4096\n1\n", 1)
        self.mapped(b"9" * 100 + b"\n0\n", 0)
        self.mapped(b"9" * 508 + b"\n0\n", 0)
        self.mapped(b"9" * 512, 0)
        self.mapped(b"10\n" + b"9" * 60 + b"\n", 0)
        self.mapped(b"10\n1\n0\n" + b"9" * 60 + b"\n", 1)

    def test_the_stored_bytes(self):
        for data in (0, 1, 2, 4, 5, 100):
            self.mapped(b"10\n1\n0\n3\n", data)
        self.mapped(b"10\n0\n", 1)
        self.mapped(b"4096\n1\n0\n4095\n", 4096)

    def test_fifty_one_pieces(self):
        for many in (50, 51):
            numbers = [4096, many]
            for k in range(many):
                numbers += [2 * k, 1]
            content = b"".join(b"%d\n" % number for number in numbers)
            self.mapped(content, many, None if many == 50 else "map")

    def test_only_complete_blocks(self):
        front = block({"kind": b"S", "size": octal(512, 12)})
        self.told(front + b"\xff" * 511, [], ("torn", 0))


class Padding(Case):
    def test_files(self):
        for size in (1, 2, 511, 513, 1023, 4095):
            right = packed(File("n", b"\xff" * size))
            for place in {512 + size, 512 + size + 1, len(right) - 1}:
                if place < len(right):
                    for byte in (b"\x01", b"0", b"\xff"):
                        self.wrong(right[:place] + byte + right[place + 1:], "padding")

    def test_data_are_not_padding(self):
        data = bytes(511) + b"\xff" + bytes(100) + b"\xff"
        self.told(written([File("n", data)]), [(0, File("n", data))], None)

    def test_sparse_files(self):
        right = packed(Sparse("n", 4096, (0, b"x"), (5, b"y" * 600)))
        for place in (1024 + 601, 1024 + 602, len(right) - 1):
            self.wrong(right[:place] + b"x" + right[place + 1:], "padding")

    def test_the_map_comes_first(self):
        right = packed(Sparse("n", 9, (0, b"x")))
        made = right[:512] + b"8" + right[513:1025] + b"x" + right[1026:]
        self.wrong(made, "padding")
        self.wrong(made[:512] + b"0" + made[513:], "map")

    def test_long_names(self):
        right = packed(File("n" * 101, b"x"))
        self.wrong(right[:-1] + b"x", "padding", 1024)

    def test_only_complete_blocks(self):
        right = packed(File("n", b"x"))
        self.told(right[:600] + b"x" * 423, [], ("torn", 0))


class Ends(Case):
    def test_a_block_behind_the_zero_block(self):
        for block_behind in (packed(B), b"\xff" * 512, b"\x01" + bytes(511), bytes(511) + b"\x01"):
            self.wrong(bytes(512) + block_behind, "end")

    def test_behind_a_member_with_a_long_name(self):
        member = Link("n" * 101, "t" * 101)
        data = packed(member) + bytes(512) + b"\x01" * 512
        self.told(data, [(0, member)], ("wrong", 2560, "end"))

    def test_only_complete_blocks(self):
        self.told(bytes(512) + b"\xff" * 511, [], ("torn", 0))

    def test_from_the_second_zero_block(self):
        data = written([A])
        self.told(data, [], ("torn", 1536), 1536)
        self.told(data + packed(B), [], ("wrong", 1536, "end"), 1536)


class AnyData(Case):
    def same(self, data, offset=0):
        expected = scanned(data, offset)
        self.assertEqual(scan(data, offset=offset), expected)
        if expected[1] is None and offset == 0:
            whole = archive([member for _, member in expected[0]])
            self.assertEqual(data[:len(whole)], whole)
        return expected

    def test_one_byte_changed_at_each_place(self):
        data = archive(FEW)
        for place in range(len(data)):
            byte = data[place] ^ [1, 48, 97, 128][place % 4]
            self.same(data[:place] + bytes([byte]) + data[place + 1:])

    def test_one_byte_changed_in_each_member(self):
        for member in FEW:
            data = archive([member])
            for place in range(len(data) - 1024):
                for byte in {0, data[place] ^ 1} - {data[place]}:
                    self.same(data[:place] + bytes([byte]) + data[place + 1:])

    def test_blocks_that_are_mixed(self):
        source = random.Random(8)
        blocks = []
        for member in MEMBERS:
            made = packed(member)
            blocks += [made[at:at + 512] for at in range(0, len(made), 512)]
        blocks += [bytes(512)] * 6
        for _ in range(1500):
            self.same(b"".join(source.choice(blocks) for _ in range(source.randrange(1, 7))))

    def test_members_with_changes(self):
        source = random.Random(9)
        for _ in range(1500):
            members = [source.choice(MEMBERS) for _ in range(source.randrange(1, 4))]
            data = bytearray(archive(members))
            for _ in range(source.randrange(3)):
                place = source.randrange(len(data))
                data[place] = source.choice([0, 32, 48, 55, 56, 97, 255, data[place] ^ 1])
                at = place // 512 * 512
                if source.random() < 0.7 and data[at + 257:at + 262] == b"ustar":
                    made = bytes(data[at:at + 148]) + b" " * 8 + bytes(data[at + 156:at + 512])
                    data[at + 148:at + 156] = b"%06o\x00 " % sum(made)
            cut = source.randrange(len(data) + 1) if source.random() < 0.3 else len(data)
            self.same(bytes(data[:cut]), source.choice([0, 0, 512, 1024]) if cut >= 1024 else 0)

    def test_any_bytes(self):
        source = random.Random(10)
        for size in (1, 511, 512, 513, 1024, 60000):
            for _ in range(5):
                self.same(source.randbytes(size))


class Steps(Case):
    def test_the_members_ahead_come_first(self):
        steps = each(written([A, B])[:1600])
        self.assertEqual(next(steps), A)
        self.assertEqual(next(steps), B)
        with self.assertRaises(Torn) as caught:
            next(steps)
        self.assertEqual(caught.exception.offset, 1536)
        with self.assertRaises(StopIteration):
            next(steps)

    def test_a_wrong_member(self):
        steps = each(packed(A) + packed(D) + b"\xff" * 512 + written([B]))
        self.assertEqual([next(steps), next(steps)], [A, D])
        with self.assertRaises(Wrong) as caught:
            next(steps)
        self.assertEqual((caught.exception.offset, caught.exception.field), (1536, "name"))

    def test_the_end(self):
        steps = each(written([A]))
        self.assertEqual(next(steps), A)
        with self.assertRaises(StopIteration):
            next(steps)
        self.assertEqual(list(each(written(MEMBERS))), MEMBERS)
        self.assertEqual(list(each(END)), [])

    def test_errors_of_arguments_when_the_first_item_is_asked_for(self):
        steps = each("no data")
        with self.assertRaises(NoData):
            next(steps)
        steps = each(b"", offset=1)
        with self.assertRaises(NoOffset):
            next(steps)

    def test_by_offset(self):
        self.assertEqual(list(each(written([A, B]), offset=1024)), [B])
        self.assertEqual(list(each(b"xyz" + written([A, B]), offset=3)), [A, B])

    def test_two_at_a_time(self):
        data = written([A, B])
        one, other = each(data), each(data, offset=1024)
        self.assertEqual([next(one), next(other), next(one)], [A, B, B])


class WrongArguments(Case):
    def test_no_data(self):
        for thing in NO_DATA + [[written([A])], "a" * 1024, list(END)]:
            for function in (scan, read, lambda data: list(each(data)), lambda data: scan(data, offset=-1),
                             lambda data: list(each(data, offset="x")), lambda data: scan(data, offset=0)):
                with self.subTest(thing=thing):
                    with self.assertRaises(NoData) as caught:
                        function(thing)
                    self.assertEqual(caught.exception.thing, thing)
                    self.assertIs(type(caught.exception.thing), type(thing))

    def test_no_offset(self):
        data = written([A])
        offsets = [thing for thing in ANY if not isinstance(thing, int) or isinstance(thing, bool)]
        for offset in offsets + [-1, -512, len(data) + 1, 10 ** 59, -10 ** 59, b"\x00", [0], "0"]:
            for function in (lambda: scan(data, offset=offset), lambda: list(each(data, offset=offset))):
                with self.subTest(offset=offset):
                    with self.assertRaises(NoOffset) as caught:
                        function()
                    self.assertEqual(caught.exception.offset, offset)
                    self.assertIs(type(caught.exception.offset), type(offset))
        with self.assertRaises(NoOffset):
            scan(b"", offset=1)

    def test_arguments_by_name(self):
        data = written([A, B])
        self.assertEqual(scan(offset=1024, data=data), ([(1024, B)], None))
        self.assertEqual(read(data=data), [A, B])
        self.assertEqual(list(each(data=data, offset=1024)), [B])
        for function in (scan, each):
            with self.assertRaises(TypeError):
                function(data, 0)


class Examples(unittest.TestCase):
    def test_the_examples_of_the_document(self):
        Z = written([A, B])
        found = [scan(Z), scan(Z[:1100])[1], scan(Z, offset=1024)[0] == [(1024, B)]]
        self.assertEqual(found, [([(0, File("a/b", blob([1, 2, 3]), time=7)), (1024, Link("c", "a/b"))], None),
                                 ("torn", 1024), True])
        self.assertEqual(repr(found[0]), "([(0, File('a/b')), (1024, Link('c'))], None)")
        found = [scan(blob([255]) + Z[1:])[1], scan(Z[:600] + blob([1]) + Z[601:])[1], read(Z) == [A, B]]
        self.assertEqual(found, [("wrong", 0, "name"), ("wrong", 0, "padding"), True])
        r = Reader()
        found = [r.feed(Z[:1000]), r.waiting, len(r.feed(Z[1000:])), r.is_ended, r.finish()]
        self.assertEqual(found, [[], 1000, 2, True, 2])


if __name__ == "__main__":
    unittest.main()
