"""Points [3], [8] and [9], and the class of the section "Reading"."""

import random
import unittest

from model_reading import scanned
from samples import ANY, LONG, MEMBERS, Raising, block, long_part, octal, packed, text
from tarhouse.errors import Closed, NoData, Torn, Wrong
from tarhouse.members import File, Link, Sparse, Symlink
from tarhouse.reading import Reader, scan
from tarhouse.writing import written

A = File("a/b", b"\x01\x02\x03", time=7)
B = Link("c", "a/b")
FEW = [A, Symlink("s" * 101, "t" * 101), Sparse("p", 999, (1, b"x" * 600), (900, b"z")), B]
NO_DATA = [thing for thing in ANY if not isinstance(thing, bytes)]


class Case(Raising):
    def state(self, reader, trouble, is_ended, waiting):
        self.assertEqual(reader.trouble, trouble)
        self.assertIs(reader.is_ended, is_ended)
        self.assertEqual(reader.waiting, waiting)

    def fed(self, data, size):
        """A reader that got data in pieces of a size, and the members that it gave."""
        reader = Reader()
        members = []
        for at in range(0, len(data), size):
            members += reader.feed(data[at:at + size])
        return reader, members

    def unfinished(self, reader, trouble):
        if trouble[0] == "torn":
            self.raises(Torn, reader.finish, offset=trouble[1])
        else:
            self.raises(Wrong, reader.finish, offset=trouble[1], field=trouble[2])


class Pieces(Case):
    def test_pieces_of_each_size(self):
        data = written(MEMBERS)
        for size in (1, 2, 100, 511, 512, 513, 1023, 1024, 5000, len(data)):
            reader, members = self.fed(data, size)
            self.assertEqual(members, MEMBERS)
            self.state(reader, None, True, 0)
            self.assertEqual(reader.finish(), len(MEMBERS))

    def test_members_come_with_their_last_byte(self):
        data = written(FEW)
        ends = {}
        end = 0
        for member in FEW:
            end += len(packed(member))
            ends[end] = member
        reader = Reader()
        for at in range(len(data)):
            self.assertEqual(reader.feed(data[at:at + 1]), [ends[at + 1]] if at + 1 in ends else [])
            self.assertIs(reader.is_ended, at + 1 == len(data))

    def test_several_members_at_once(self):
        reader = Reader()
        self.assertEqual(reader.feed(written(FEW)), FEW)
        reader = Reader()
        self.assertEqual(reader.feed(packed(A) + packed(B) + packed(A)[:1023]), [A, B])
        self.assertEqual(reader.feed(packed(A)[1023:] + packed(B)), [A, B])

    def test_empty_pieces(self):
        reader = Reader()
        self.assertEqual(reader.feed(b""), [])
        self.state(reader, None, False, 0)
        for at in range(0, 2560, 320):
            reader.feed(written([A, B])[at:at + 320])
            self.assertEqual(reader.feed(b""), [])
        self.state(reader, None, True, 0)

    def test_no_members(self):
        reader, members = self.fed(bytes(1024), 100)
        self.assertEqual(members, [])
        self.state(reader, None, True, 0)
        self.assertEqual(reader.finish(), 0)

    def test_any_data_as_at_once(self):
        source = random.Random(3)
        blocks = [bytes(512)] * 6
        for member in MEMBERS:
            made = packed(member)
            blocks += [made[at:at + 512] for at in range(0, len(made), 512)]
        for _ in range(500):
            data = bytearray(b"".join(source.choice(blocks) for _ in range(source.randrange(1, 7))))
            if source.random() < 0.5:
                data[source.randrange(len(data))] ^= 1
            data = bytes(data[:len(data) - source.choice([0, 0, 1, 300])])
            found, trouble = scanned(data)
            self.assertEqual(scan(data), (found, trouble))
            reader, members = self.fed(data, source.choice([1, 7, 511, 512, 513, 1000]))
            self.assertEqual(members, [member for _, member in found])
            is_wrong = trouble is not None and trouble[0] == "wrong"
            self.state(reader, trouble if is_wrong else None, trouble is None,
                       0 if is_wrong or trouble is None else len(data) - trouble[1])
            if trouble is None:
                self.assertEqual(reader.finish(), len(found))
            else:
                self.unfinished(reader, trouble)

    def test_two_readers_share_nothing(self):
        one, other = Reader(), Reader()
        data = written([A, B])
        one.feed(data[:1000])
        self.assertEqual(other.feed(data), [A, B])
        self.assertEqual(one.feed(data[1000:1536]), [A, B])
        self.state(one, None, False, 0)
        self.state(other, None, True, 0)
        self.assertEqual(other.finish(), 2)
        self.assertEqual(one.feed(data[1536:]), [])
        self.assertEqual(one.finish(), 2)

    def test_what_is_returned_is_the_callers(self):
        reader = Reader()
        reader.feed(packed(A)).clear()
        self.assertEqual(reader.feed(written([B])), [B])
        self.assertEqual(reader.finish(), 2)

    def test_by_name(self):
        self.assertEqual(Reader().feed(data=written([A])), [A])


class Waiting(Case):
    def test_at_every_length(self):
        data = written(FEW)
        reader = Reader()
        ends = [0]
        for member in FEW:
            ends.append(ends[-1] + len(packed(member)))
        for length in range(1, len(data) + 1):
            reader.feed(data[length - 1:length])
            start = max(end for end in ends if end <= length)
            expected = 0 if length == len(data) else length - start
            self.assertEqual(reader.waiting, expected, length)

    def test_zero_blocks(self):
        reader = Reader()
        for many in range(1, 1024):
            reader.feed(b"\x00")
            self.state(reader, None, False, many)
        reader.feed(b"\x00")
        self.state(reader, None, True, 0)

    def test_long_parts(self):
        data = packed(Link("n" * 101, "t" * 101))
        for length in (1, 512, 1024, 1536, 2048, 2559):
            reader, _ = self.fed(data[:length], 512)
            self.state(reader, None, False, length)


class Troubles(Case):
    def told_with(self, data, length, trouble):
        """Check that a trouble is told with a byte and not earlier, and stays."""
        reader = Reader()
        members = []
        for at in range(length):
            self.state(reader, None, False, reader.waiting)
            members += reader.feed(data[at:at + 1])
        self.state(reader, trouble, False, 0)
        self.unfinished(reader, trouble)
        self.assertEqual(reader.feed(data[length:]), [])
        self.assertEqual(reader.feed(written([A])), [])
        self.state(reader, trouble, False, 0)
        self.unfinished(reader, trouble)
        earlier, found = self.fed(data[:length - 1], 512)
        self.state(earlier, None, False, earlier.waiting)
        self.assertEqual(found, members)
        # At once and in pieces.
        for size in (511, 512, 513, 100000):
            reader, found = self.fed(data, size)
            self.assertEqual(found, members)
            self.state(reader, trouble, False, 0)

    def test_a_header(self):
        more = written([B])
        self.told_with(b"\xff" * 512 + more, 512, ("wrong", 0, "name"))
        self.told_with(block({"checksum": b" " * 8}) + more, 512, ("wrong", 0, "checksum"))
        self.told_with(packed(A) + block({"mode": bytes(8)}) + more, 1536, ("wrong", 1024, "mode"))
        self.told_with(packed(A) + block({"size": octal(4097, 12)}) + more, 1536, ("wrong", 1024, "size"))

    def test_a_text(self):
        front = block({"name": text(LONG), "kind": b"L", "size": octal(102, 12)})
        self.told_with(front + b"N" * 512 + written([A]), 1024, ("wrong", 0, "text"))
        self.told_with(packed(B) + front + b"n" * 512 + written([A]), 1536, ("wrong", 512, "text"))

    def test_a_header_behind_a_long_part(self):
        for front, field in ((long_part("K", "t" * 101), "mode"), (long_part("L", "n" * 101), "name")):
            self.told_with(front + bytes(1024), 1536, ("wrong", 1024, "name"))
            # The name of this header is right, but not behind another long name.
            self.told_with(packed(A) + front + b"x" * 1024, 2560, ("wrong", 2048, field))

    def test_a_map(self):
        front = block({"kind": b"S", "size": octal(1600, 12)})
        self.told_with(front + b"1\n1\n" + bytes(4000), 1024, ("wrong", 0, "map"))

    def test_padding(self):
        data = packed(File("n", b"x" * 600))
        self.told_with(data[:1200] + b"x" + data[1201:] + written([A]), 1536, ("wrong", 0, "padding"))
        data = packed(Sparse("p", 999, (1, b"x" * 600)))
        self.told_with(data[:1624] + b"x" + data[1625:] + written([A]), 2048, ("wrong", 0, "padding"))

    def test_an_end(self):
        self.told_with(bytes(1023) + b"\x01" + written([A]), 1024, ("wrong", 0, "end"))
        self.told_with(packed(B) + bytes(512) + packed(A) + bytes(1024), 1536, ("wrong", 512, "end"))

    def test_members_ahead_in_the_same_piece(self):
        reader = Reader()
        self.assertEqual(reader.feed(packed(A) + packed(B) + b"\xff" * 600), [A, B])
        self.state(reader, ("wrong", 1536, "name"), False, 0)


class Finishing(Case):
    def test_the_number_of_members(self):
        for many in range(5):
            reader, _ = self.fed(written([A] * many), 700)
            self.assertEqual(reader.finish(), many)

    def test_too_early_then_again(self):
        data = written([A, B])
        reader = Reader()
        self.raises(Torn, reader.finish, offset=0)
        reader.feed(data[:1])
        self.raises(Torn, reader.finish, offset=0)
        reader.feed(data[1:1023])
        self.raises(Torn, reader.finish, offset=0)
        reader.feed(data[1023:1024])
        self.raises(Torn, reader.finish, offset=1024)
        reader.feed(data[1024:2000])
        self.raises(Torn, reader.finish, offset=1536)
        self.state(reader, None, False, 464)
        reader.feed(data[2000:])
        self.assertEqual(reader.finish(), 2)
        self.state(reader, None, True, 0)

    def test_after_a_trouble(self):
        reader = Reader()
        reader.feed(packed(A) + b"\xff" * 512)
        for _ in range(2):
            self.raises(Wrong, reader.finish, offset=1024, field="name")
        self.assertEqual(reader.feed(b""), [])

    def test_closed(self):
        reader, _ = self.fed(written([A]), 512)
        self.assertEqual(reader.finish(), 1)
        self.raises(Closed, reader.finish)
        self.raises(Closed, reader.feed, b"")
        self.raises(Closed, reader.feed, written([A]))
        for thing in NO_DATA:
            self.raises(Closed, reader.feed, thing)
        self.state(reader, None, True, 0)

    def test_data_behind_the_end_are_not_looked_at(self):
        reader = Reader()
        self.assertEqual(reader.feed(written([A]) + b"\xff" * 700), [A])
        self.assertEqual(reader.feed(written([B])), [])
        self.assertEqual(reader.feed(b"\xff" * 600), [])
        self.state(reader, None, True, 0)
        self.assertEqual(reader.finish(), 1)

    def test_the_rest_of_a_piece_behind_the_end_is_not_kept(self):
        reader = Reader()
        reader.feed(written([A]) + packed(B)[:100])
        self.assertEqual(reader.feed(packed(B)[100:]), [])
        self.assertEqual(reader.finish(), 1)


class WrongArguments(Case):
    def test_no_data(self):
        for thing in NO_DATA + [list(bytes(512)), "a" * 512]:
            reader = Reader()
            with self.subTest(thing=thing):
                self.raises(NoData, reader.feed, thing, thing=thing)
                self.assertEqual(reader.feed(packed(A)[:700]), [])
                self.raises(NoData, reader.feed, thing, thing=thing)
                self.state(reader, None, False, 700)
                self.assertEqual(reader.feed(packed(A)[700:]), [A])

    def test_after_a_trouble_and_after_the_end(self):
        for data in (b"\xff" * 512, bytes(1024)):
            reader = Reader()
            reader.feed(data)
            for thing in NO_DATA:
                self.raises(NoData, reader.feed, thing, thing=thing)

    def test_properties(self):
        for name in ("trouble", "is_ended", "waiting"):
            self.assertIsInstance(getattr(Reader, name), property)
            with self.assertRaises(AttributeError):
                setattr(Reader(), name, 1)
        self.state(Reader(), None, False, 0)


if __name__ == "__main__":
    unittest.main()
