"""Point [6] and the section "Headers"."""

import unittest

from samples import ANY, FIELDS, LONG, block, octal, text
from tarhouse.errors import NoBlock
from tarhouse.headers import checksum, header

KINDS = "0S521KL"
NUMBERS = {"mode": 8, "size": 12, "time": 12}


class Fields(unittest.TestCase):
    def check(self, kind, name, given, expected):
        """`expected` are the fields that differ from those of an empty file."""
        made = header(kind, name, **given)
        right = block(dict(expected, kind=kind.encode(), name=text(name)))
        self.assertIs(type(made), bytes)
        for field, place in FIELDS.items():
            with self.subTest(kind=kind, name=name, given=given, field=field):
                self.assertEqual(made[place], right[place])
        self.assertEqual(made, right)

    def test_each_kind_without_more(self):
        for kind in KINDS:
            self.check(kind, "a/b", {}, {})

    def test_the_fields_that_never_change(self):
        made = header("2", "s", mode=8 ** 7 - 1, size=8 ** 11 - 1, time=8 ** 11 - 1, target="t" * 250)
        self.assertEqual(made[108:124], b"0000000\x000000000\x00")
        self.assertEqual(made[257:265], b"ustar\x0000")
        self.assertEqual(made[265:], bytes(247))

    def test_names_and_targets(self):
        texts = ["", "a", LONG, "/", ".", "ab" * 49 + "c", "ab" * 50, "ab" * 50 + "c", "abcde" * 50]
        self.assertEqual([len(string) for string in texts[-4:]], [99, 100, 101, 250])
        for kind in KINDS:
            for string in texts:
                self.check(kind, string, {}, {})
                self.check(kind, "n", {"target": string}, {"target": text(string)})
                self.check(kind, string, {"target": string[::-1]}, {"target": text(string[::-1])})

    def test_the_end_of_text_fields(self):
        self.assertEqual(header("0", "n" * 99)[98:101], b"n\x000")
        self.assertEqual(header("0", "n" * 100)[98:101], b"nn0")
        self.assertEqual(header("0", "n" * 100 + "x" * 150)[98:101], b"nn0")
        self.assertEqual(header("1", "n", target="t" * 99)[255:258], b"t\x00u")
        self.assertEqual(header("1", "n", target="t" * 101)[255:258], b"ttu")

    def test_every_character_of_names(self):
        characters = "abcdefghijklmnopqrstuvwxyz0123456789._-/"
        self.check("1", characters, {"target": characters}, {"target": text(characters)})

    def test_numbers(self):
        for kind in KINDS:
            for field, size in NUMBERS.items():
                for number in (0, 1, 7, 8, 63, 64, 511, 512, 4095, 8 ** (size - 1) - 1):
                    self.check(kind, "n", {field: number}, {field: octal(number, size)})

    def test_numbers_together(self):
        given = {"mode": 0o1234567, "size": 0o12345670123, "time": 0o76543210765}
        expected = {field: octal(number, NUMBERS[field]) for field, number in given.items()}
        self.check("0", "n", given, expected)
        self.assertEqual(header("0", "n", **given)[100:108], b"1234567\x00")
        self.assertEqual(header("0", "n", **given)[124:148], b"12345670123\x0076543210765\x00")

    def test_arguments_by_name(self):
        self.assertEqual(header(kind="5", name="ab", mode=448), header("5", "ab", mode=448))
        with self.assertRaises(TypeError):
            header("5", "ab", 448)

    def test_the_example_of_the_document(self):
        h = header("5", "ab", mode=448)
        found = [len(h), list(h[:4]), list(h[100:108]), checksum(h), list(h[148:157])]
        self.assertEqual(found, [512, [97, 98, 0, 0], [48, 48, 48, 48, 55, 48, 48, 0], 3230,
                                 [48, 48, 54, 50, 51, 54, 0, 32, 53]])


class Checksums(unittest.TestCase):
    def test_of_headers(self):
        for kind in KINDS:
            made = header(kind, "a" * 250, mode=8 ** 7 - 1, size=8 ** 11 - 1, time=8 ** 11 - 1, target="z" * 100)
            self.assertEqual(made[148:156], b"%06o\x00 " % checksum(made))

    def test_whatever_is_in_the_field(self):
        made = header("0", "n")
        for field in (bytes(8), b" " * 8, b"\xff" * 8, b"12345678", bytes(range(8))):
            self.assertEqual(checksum(made[:148] + field + made[156:]), checksum(made))

    def test_of_any_bytes(self):
        self.assertEqual(checksum(bytes(512)), 256)
        self.assertEqual(checksum(b"\xff" * 512), 504 * 255 + 256)
        self.assertEqual(checksum(bytes(range(256)) * 2), 256 * 255 - sum(range(148, 156)) + 256)

    def test_each_byte_outside_of_the_field_counts_once(self):
        for place in range(512):
            made = bytes(place) + b"\x07" + bytes(511 - place)
            with self.subTest(place=place):
                self.assertEqual(checksum(made), 256 if 148 <= place < 156 else 263)

    def test_no_blocks(self):
        things = ANY + [bytes(511), bytes(513), bytes(1024), "a" * 512, [0] * 512, (0,) * 512, list(bytes(512))]
        for thing in things:
            with self.subTest(thing=thing):
                with self.assertRaises(NoBlock) as caught:
                    checksum(thing)
                self.assertEqual(caught.exception.thing, thing)
                self.assertIs(type(caught.exception.thing), type(thing))

    def test_by_name(self):
        self.assertEqual(checksum(block=bytes(512)), 256)


if __name__ == "__main__":
    unittest.main()
