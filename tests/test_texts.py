"""Point [18] and the section "Texts"."""

import random
import unittest

from model_houses import any_members
from samples import ANY, MEMBERS, Raising
from tarhouse.blobs import blob
from tarhouse.errors import NoText
from tarhouse.members import Directory, File, Link, Sparse, Symlink
from tarhouse.texts import read_member, show_member

TEXTS = {
    "file a/b 0644 7 x010203": File("a/b", blob([1, 2, 3]), time=7),
    "file f 0000 0 x": File("f", b"", mode=0),
    "file f 7777 8589934591 x00ff10": File("f", b"\x00\xff\x10", mode=4095, time=8589934591),
    "sparse s 0644 0 5 1:x09": Sparse("s", 5, (1, blob([9]))),
    "sparse s 0644 0 0": Sparse("s", 0),
    "sparse s 0001 3 4096": Sparse("s", 4096, mode=1, time=3),
    "sparse s 0644 0 10 0:xabcd 3:x00 9:xef": Sparse("s", 10, (0, b"\xab\xcd"), (3, b"\x00"), (9, b"\xef")),
    "directory a 0700 0": Directory("a", mode=448),
    "directory /x..y// 0755 60": Directory("/x..y//", time=60),
    "symlink s 0777 0 ../t": Symlink("s", "../t"),
    "symlink s 1234 5 /": Symlink("s", "/", mode=668, time=5),
    "link c 0644 0 a/b": Link("c", "a/b"),
    "link . 0010 10 ..": Link(".", "..", mode=8, time=10),
}
LONG = 'n' * 250


class Case(Raising):
    def none(self, *texts):
        for text in texts:
            with self.subTest(text=text):
                self.raises(NoText, read_member, text, text=text)

    def same(self, text, member):
        """Check a text and the member that it writes, both ways."""
        self.assertEqual(show_member(member), text)
        found = read_member(text)
        self.assertEqual(found, member)
        self.assertIs(type(found), type(member))


class Right(Case):
    def test_each_kind(self):
        for text, member in TEXTS.items():
            self.same(text, member)
        self.assertEqual(show_member(member=Link("c", "a")), "link c 0644 0 a")
        self.assertEqual(read_member(text="link c 0644 0 a"), Link("c", "a"))

    def test_what_is_shown_is_read(self):
        source = random.Random(3)
        for member in MEMBERS + [member for _ in range(100) for member in any_members(source, 6)]:
            text = show_member(member)
            self.same(text, member)
            self.assertEqual(text, " ".join(text.split()))
            self.assertEqual(text.split()[0], member.KIND)

    def test_bounds(self):
        data = bytes(range(256)) * 16
        self.same(f"file {LONG} 7777 8589934591 x{data.hex()}", File(LONG, data, mode=4095, time=8589934591))
        self.same(f"link {LONG} 0000 0 {LONG}", Link(LONG, LONG, mode=0))
        pieces = [(2 * at, bytes([at])) for at in range(50)]
        text = " ".join(f"{at}:x{piece.hex()}" for at, piece in pieces)
        self.same(f"sparse p 0644 0 99 {text}", Sparse("p", 99, *pieces))
        self.same(f"sparse p 0644 0 4096 0:x{data.hex()}", Sparse("p", 4096, (0, data)))
        self.same("sparse p 0644 0 4096 4095:x00", Sparse("p", 4096, (4095, b"\x00")))


class Words(Case):
    def test_left_out(self):
        for text in TEXTS:
            words = text.split(" ")
            for index in range(len(words)):
                if words[0] != "sparse" or index < 5:
                    self.none(" ".join(words[:index] + words[index + 1:]))

    def test_doubled(self):
        for text in TEXTS:
            words = text.split(" ")
            for index in range(len(words)):
                self.none(" ".join(words[:index + 1] + words[index:]))

    def test_empty(self):
        for text in TEXTS:
            words = text.split(" ")
            for index in range(len(words)):
                self.none(" ".join(words[:index] + [""] + words[index:]))
                self.none(" ".join(words[:index] + [""] + words[index + 1:]))
            self.none(" " + text, text + " ", "  " + text, text + "  ", text.replace(" ", "  "))

    def test_exchanged(self):
        for text in TEXTS:
            words = text.split(" ")
            for index in range(len(words) - 1):
                given = words[:index] + [words[index + 1], words[index]] + words[index + 2:]
                # The time and the size of a sparse file are both numbers.
                if index != 3 or words[0] != "sparse":
                    self.none(" ".join(given))
        self.none("sparse s 0644 0 10 3:x00 0:xabcd", "sparse s 0644 0 1:x09 5")

    def test_one_more(self):
        for text in TEXTS:
            for more in ("x", "0", "a", "x00", "file"):
                self.none(f"{text} {more}")

    def test_kinds(self):
        for text, member in TEXTS.items():
            rest = text.partition(" ")[2]
            for kind in ("File", "FILE", "files", "fil", "f", "0", "dir", "hardlink", "sym", "Member", "links", "-", "",
                         "list", "append"):
                self.none(f"{kind} {rest}")
            for kind in ("file", "sparse", "directory"):
                if kind != member.KIND:
                    self.none(f"{kind} {rest}")
        self.none("file", "sparse", "directory", "symlink", "link", "", " ", "  ")

    def test_spaces_of_other_kinds(self):
        for text in TEXTS:
            for space in "\t\n\r\x0b\x0c\xa0\u2003,":
                self.none(text.replace(" ", space), text.replace(" ", space, 1), text + space, space + text)

    def test_names(self):
        for name in ("A", "a:b", "a*b", "\xe9", "a\n", LONG + "n", "a,b", "~", "x" * 1000):
            self.none(f"file {name} 0644 0 x", f"sparse {name} 0644 0 0", f"directory {name} 0644 0",
                      f"symlink {name} 0644 0 t", f"link {name} 0644 0 t", f"symlink t 0644 0 {name}",
                      f"link t 0644 0 {name}")


class Numbers(Case):
    def test_modes(self):
        for mode in ("644", "00644", "8000", "0648", "0o644", "-644", "+644", "0x12", "06 4", "06_4", "064a", "x", "4",
                     "10000", "\u0660644", "1e10", "0644.", ""):
            self.none(f"file f {mode} 0 x", f"directory f {mode} 0", f"link f {mode} 0 t", f"sparse f {mode} 0 0")
        for number in range(4096):
            mode = "".join(str(number // 8 ** at & 7) for at in (3, 2, 1, 0))
            self.same(f"directory d {mode} 0", Directory("d", mode=number))

    def test_times(self):
        for time in ("8589934592", "08589934591", "-1", "+1", "-0", "00", "01", "007", "1.0", "1e3", "0x1", "1_0", "",
                     "\u0661", "a", "9" * 60, "1" + "0" * 59, "0" * 60, "9" * 61, "0" * 61, "1" * 5000):
            self.none(f"file f 0644 {time} x", f"directory f 0644 {time}", f"symlink f 0644 {time} t",
                      f"sparse f 0644 {time} 0")
        for time in (0, 1, 9, 10, 8589934590, 8589934591):
            self.same(f"directory d 0755 {time}", Directory("d", time=time))

    def test_sizes(self):
        for size in ("4097", "-1", "00", "05", "+5", "5.", "x", "9" * 60, "9" * 61, "0" * 61, "1" * 5000, "\u0665", "0x5"):
            self.none(f"sparse s 0644 0 {size}", f"sparse s 0644 0 {size} 1:x09")

    def test_offsets(self):
        for offset in ("4096", "-1", "00", "01", "+1", "x", "", "1.", "9" * 60, "9" * 61, "0" * 61, "1" * 5000, "\u0661"):
            self.none(f"sparse s 0644 0 4096 {offset}:x09")


class Data(Case):
    def test_digits(self):
        for word in ("0102", "X0102", "x1", "x123", "x0", "xAB", "xaB", "xg0", "x0g", "x 0", "x-1", "xx00", "x00x00", "0x00",
                     "x0_0", "x\u0660\u0660", "x00\n", "", "00x", "b''", "x+1", "x00:", "xx0"):
            self.none(f"file f 0644 0 {word}", f"sparse s 0644 0 9 1:{word}")

    def test_too_many(self):
        self.none(f"file f 0644 0 x{'00' * 4097}", f"file f 0644 0 x{'00' * 5000}",
                  f"sparse f 0644 0 4096 0:x{'00' * 4097}")

    def test_pieces(self):
        for words in ("1:x", "1x09", "1", ":", ":x09", "1:", "1::x09", "1:x09:", "1:09", "x09:1", "5:x09", "4:x0909",
                      "0:x090909090909", "1:x09 2:x09", "1:x0909 3:x09", "1:x09 1:x09", "3:x09 1:x09", "0:x09 1:x09", "1:x09,3:x09",
                      "1: x09", "1 :x09", "-1:x09"):
            self.none(f"sparse s 0644 0 5 {words}")
        self.same("sparse s 0644 0 5 4:x09", Sparse("s", 5, (4, b"\x09")))
        self.same("sparse s 0644 0 5 0:x09 2:x09 4:x09", Sparse("s", 5, (0, b"\x09"), (2, b"\x09"), (4, b"\x09")))

    def test_too_many_pieces(self):
        text = " ".join(f"{2 * at}:x00" for at in range(51))
        self.none(f"sparse p 0644 0 4096 {text}")


class Values(Case):
    def test_no_strings(self):
        for thing in ANY + [b"file f 0644 0 x", ["file f 0644 0 x"], ("file", "f", "0644", "0", "x"), TEXTS]:
            if not isinstance(thing, str):
                self.none(thing)
        self.none("", "a", "a/b", "None")

    def test_members_are_new(self):
        text = "sparse s 0644 0 5 1:x09"
        self.assertIsNot(read_member(text), read_member(text))

    def test_any_texts(self):
        # Whatever is read is shown as the same text.
        source = random.Random(7)
        read = 0
        for _ in range(5000):
            text = source.choice(list(TEXTS))
            for _ in range(source.randrange(1, 3)):
                at = source.randrange(len(text) + 1)
                text = text[:at] + source.choice(["", " ", *"0178xaf:/.-", "F"]) + text[at + source.randrange(2):]
            try:
                member = read_member(text)
            except NoText as error:
                self.assertEqual(error.text, text)
            else:
                read += 1
                self.assertEqual(show_member(member), text)
        self.assertGreater(read, 300)


if __name__ == "__main__":
    unittest.main()
