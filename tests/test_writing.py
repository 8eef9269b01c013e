"""Point [7] and the functions of the section "Writing"."""

import io
import tarfile
import unittest

from samples import LENGTHS, LONGEST_MAP, MEMBERS, STARTS, archive, block, full, long_part, octal, packed, stored, text
from tarhouse.blobs import blob
from tarhouse.members import Directory, File, Link, Sparse, Symlink
from tarhouse.writing import blocks_of, written

A = File("a/b", blob([1, 2, 3]), time=7)
B = Link("c", "a/b")
D = Directory("a", mode=448)


def longest_map():
    """The length of the longest map of all sparse files, found by trying all lengths."""
    # best[end]: the most characters for the pieces so far, the last of which ends there.
    best = {-1: 0}
    for _ in range(50):
        following = {}
        reach, length = None, {}
        for start in range(4096):
            reach = max(reach if reach is not None else -1, best.get(start - 1, -1))
            if reach >= 0:
                length[start] = reach + len(str(start)) + 1
        for start, many in length.items():
            for digits in (1, 2, 3, 4):
                # Of the lengths with as many digits the least one leaves most.
                end = start + 10 ** (digits - 1)
                if end <= 4096:
                    following[end] = max(following.get(end, 0), many + digits + 1)
        best = following
    return max(best.values()) + len("4096\n50\n")


class Members(unittest.TestCase):
    def test_each_kind(self):
        for member in MEMBERS:
            with self.subTest(member=member):
                made = written([member])
                self.assertEqual(made, packed(member) + bytes(1024))
                self.assertIs(type(made), bytes)
                self.assertEqual(blocks_of(member), len(packed(member)) // 512)

    def test_a_file_byte_for_byte(self):
        header = block({"name": text("a/b"), "mode": b"0000644\x00", "size": b"00000000003\x00",
                        "time": b"00000000007\x00", "kind": b"0"})
        self.assertEqual(written([A]), header + b"\x01\x02\x03" + bytes(509) + bytes(1024))

    def test_other_kinds_byte_for_byte(self):
        header = block({"name": text("c"), "mode": octal(420, 8), "kind": b"1", "target": text("a/b")})
        self.assertEqual(written([B]), header + bytes(1024))
        header = block({"name": text("c"), "mode": octal(511, 8), "kind": b"2", "target": text("a/b")})
        self.assertEqual(written([Symlink("c", "a/b")]), header + bytes(1024))
        header = block({"name": text("a"), "mode": octal(448, 8), "kind": b"5"})
        self.assertEqual(written([D]), header + bytes(1024))

    def test_the_size_of_data(self):
        for size, blocks in ((0, 1), (1, 2), (511, 2), (512, 2), (513, 3), (1024, 3), (1025, 4), (4095, 9), (4096, 9)):
            member = File("f", b"\xff" * size)
            with self.subTest(size=size):
                self.assertEqual(blocks_of(member), blocks)
                made = written([member])
                self.assertEqual(len(made), (blocks + 2) * 512)
                self.assertEqual(made[124:136], octal(size, 12))
                self.assertEqual(made[512:512 + size], b"\xff" * size)
                self.assertEqual(made[512 + size:].strip(b"\x00"), b"")

    def test_long_parts(self):
        for long_name in (False, True):
            for long_target in (False, True):
                name, target = "n" * (100 + long_name), "t" * (100 + long_target)
                for kind in (Symlink, Link):
                    expected = long_part("K", target) if long_target else b""
                    expected += long_part("L", name) if long_name else b""
                    member = kind(name, target, mode=5, time=9)
                    with self.subTest(member=member, target=target):
                        self.assertEqual(blocks_of(member), 1 + 2 * long_name + 2 * long_target)
                        made = written([member])
                        self.assertEqual(made[:len(expected)], expected)
                        header = block({"name": text(name), "mode": octal(5, 8), "time": octal(9, 12),
                                        "kind": b"2" if kind is Symlink else b"1", "target": text(target)})
                        self.assertEqual(made[len(expected):], header + bytes(1024))

    def test_a_long_part_byte_for_byte(self):
        header = block({"name": text("././@LongLink"), "size": b"00000000146\x00", "kind": b"L"})
        self.assertEqual(written([Directory("n" * 101)])[:1024], header + b"n" * 101 + bytes(411))
        header = block({"name": text("././@LongLink"), "size": b"00000000373\x00", "kind": b"K"})
        self.assertEqual(written([Symlink("s", "t" * 250)])[:1024], header + b"t" * 250 + bytes(262))

    def test_long_names_of_each_kind(self):
        for long in (101, 250):
            name = "n" * long
            for member in (File(name, b"x"), Sparse(name, 3, (1, b"x")), Directory(name)):
                self.assertEqual(written([member])[:1024], long_part("L", name))
                self.assertEqual(written([member])[1024:1124], b"n" * 100)


class SparseFiles(unittest.TestCase):
    def test_without_pieces(self):
        made = written([Sparse("s", 4096)])
        self.assertEqual(made[124:136], octal(512, 12))
        self.assertEqual(made[512:], b"4096\n0\n" + bytes(505) + bytes(1024))
        self.assertEqual(written([Sparse("s", 0)])[512:], b"0\n0\n" + bytes(508) + bytes(1024))

    def test_pieces_follow_one_another(self):
        made = written([Sparse("s", 5, (0, b"ab"), (4, b"c"))])
        self.assertEqual(made[124:136], octal(515, 12))
        self.assertEqual(made[512:1024], b"5\n2\n0\n2\n4\n1\n".ljust(512, b"\x00"))
        self.assertEqual(made[1024:], b"abc" + bytes(509) + bytes(1024))

    def test_fifty_pieces(self):
        pieces = [(3 * k, bytes([k, k + 1])) for k in range(50)]
        made = written([Sparse("s", 4096, *pieces)])
        self.assertTrue(made[512:].startswith(b"4096\n50\n0\n2\n3\n2\n6\n2\n"))
        self.assertEqual(made[1024:1124], b"".join(data for _, data in pieces))

    def test_a_piece_up_to_the_end(self):
        self.assertEqual(blocks_of(Sparse("s", 4096, (0, b"x" * 4096))), 10)
        self.assertEqual(written([Sparse("s", 4096, (0, b"x" * 4096))])[124:136], octal(4608, 12))
        self.assertEqual(written([Sparse("s", 9, (8, b"x"))])[512:1024], b"9\n1\n8\n1\n".ljust(512, b"\x00"))

    def test_the_longest_map(self):
        made = written([LONGEST_MAP])
        shown = made[512:1024].rstrip(b"\x00")
        self.assertEqual(len(shown), longest_map())
        numbers = [4096, 50]
        for start, many in zip(STARTS, LENGTHS):
            numbers += [start, many]
        self.assertEqual(shown, b"".join(b"%d\n" % number for number in numbers))
        self.assertEqual(made[1024:], full(b"m" * sum(LENGTHS)) + bytes(1024))

    def test_the_blocks_of_the_data(self):
        for many, blocks in ((1, 3), (511, 3), (512, 3), (513, 4), (1024, 4)):
            self.assertEqual(blocks_of(Sparse("s", 4096, (9, b"x" * many))), blocks)


class Archives(unittest.TestCase):
    def test_no_members(self):
        for members in ([], ()):
            self.assertEqual(written(members), bytes(1024))

    def test_one_after_the_other(self):
        self.assertEqual(written(MEMBERS), b"".join(map(packed, MEMBERS)) + bytes(1024))
        self.assertEqual(written(MEMBERS[::-1]), archive(MEMBERS[::-1]))
        for one in MEMBERS[:4] + MEMBERS[-3:]:
            for other in MEMBERS:
                self.assertEqual(written([one, other]), packed(one) + packed(other) + bytes(1024))

    def test_lists_and_tuples(self):
        self.assertEqual(written(tuple(MEMBERS)), written(MEMBERS))
        self.assertEqual(written(members=[A, B]), written((A, B)))

    def test_the_same_member_twice(self):
        self.assertEqual(written([A, A]), packed(A) * 2 + bytes(1024))
        self.assertEqual(written([D, A, D]), packed(D) + packed(A) + packed(D) + bytes(1024))

    def test_the_list_stays(self):
        members = list(MEMBERS)
        kept = list(MEMBERS)
        shapes = [dict(vars(member)) for member in members]
        written(members)
        self.assertEqual(members, kept)
        self.assertEqual([vars(member) for member in members], shapes)

    def test_blocks_by_name(self):
        self.assertEqual(blocks_of(member=A), 2)

    def test_stored_bytes_of_others(self):
        for member in (B, D, Symlink("s", "t"), Link("l", "t" * 101), Directory("n" * 101)):
            self.assertEqual(stored(member), b"")
            made = written([member])
            self.assertEqual(made[-1536:][124:136], octal(0, 12))

    def test_tarfile_reads_them(self):
        members = [member for member in MEMBERS if not isinstance(member, Sparse)]
        with tarfile.open(fileobj=io.BytesIO(written(members))) as found:
            for member, told in zip(members, found.getmembers(), strict=True):
                with self.subTest(member=member):
                    self.assertEqual(told.name, member.name.rstrip("/") if isinstance(member, Directory)
                                     else member.name)
                    self.assertEqual((told.mode, told.mtime), (member.mode, member.time))
                    if isinstance(member, File):
                        self.assertTrue(told.isreg())
                        self.assertEqual(found.extractfile(told).read(), member.data)
                    else:
                        self.assertEqual(told.linkname, getattr(member, "target", ""))
                        kinds = (told.isdir(), told.issym(), told.islnk())
                        self.assertEqual(kinds, tuple(isinstance(member, kind) for kind in (Directory, Symlink, Link)))

    def test_the_example_of_the_document(self):
        found = [len(written([A, B, D])), blocks_of(A), blocks_of(Symlink("s" * 101, "t" * 101)), len(written([]))]
        self.assertEqual(found, [3072, 2, 5, 1024])


if __name__ == "__main__":
    unittest.main()
