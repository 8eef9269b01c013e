"""Point [4]: names and paths."""

import unittest

from tarhouse.members import Directory, is_name, is_path

ALLOWED = "abcdefghijklmnopqrstuvwxyz0123456789._-/"
NO_STRINGS = [
    None, True, False, 0, 7, b"", b"a", [], ["a"], (), ("a",), {}, {"a": "a"},
    [["a"]], Directory("a"),
]


class Names(unittest.TestCase):
    def test_each_character(self):
        for code in range(0x250):
            character = chr(code)
            with self.subTest(character=character):
                allowed = character in ALLOWED
                self.assertIs(is_name(character), allowed)
                self.assertIs(is_name("a" + character), allowed)
                self.assertIs(is_name(character + "a"), allowed)

    def test_near_characters(self):
        # Each stands beside an allowed character, or looks or counts like one.
        for text in ("`", "{", ":", ",", "+", "^", "A", "Z", "@", "\\", " ", "~", "\n",
                     "a\n", "\ta", "a\x00", "\u0661", "\u00b2", "\u0430", "\uff41", "\u212a"):
            with self.subTest(text=text):
                self.assertIs(is_name(text), False)
                self.assertIs(is_path(text), False)

    def test_lengths(self):
        for length, right in ((0, False), (1, True), (2, True), (100, True), (101, True),
                              (249, True), (250, True), (251, False), (9000, False)):
            for text in ("a" * length, ("ab/" * length)[:length].rstrip("/").ljust(length, "z")):
                with self.subTest(length=length, text=text):
                    self.assertEqual(len(text), length)
                    self.assertIs(is_name(text), right)
                    self.assertIs(is_path(text), right)

    def test_parts_do_not_matter_to_a_name(self):
        for text in ("/", "//", "/a", "a/", "a//b", ".", "..", "./a", "a/..", "/x..y//"):
            with self.subTest(text=text):
                self.assertIs(is_name(text), True)

    def test_the_name_of_long_parts_is_none(self):
        self.assertIs(is_name("././@LongLink"), False)

    def test_no_strings(self):
        for thing in NO_STRINGS:
            with self.subTest(thing=thing):
                self.assertIs(is_name(thing), False)

    def test_by_name(self):
        self.assertIs(is_name(thing="a"), True)
        self.assertIs(is_name(thing="A"), False)


class Paths(unittest.TestCase):
    def test_right_parts(self):
        for text in ("a", "a/b", "a/b/c/d/e/f/g/h", "0", "-", "_", "-/_/0"):
            with self.subTest(text=text):
                self.assertIs(is_path(text), True)

    def test_empty_parts(self):
        for text in ("", "/", "//", "/a", "a/", "a//b", "//a", "a//", "a/b/", "/a/b", "a/b//c"):
            with self.subTest(text=text):
                self.assertIs(is_path(text), False)

    def test_parts_of_dots(self):
        for dots in (".", ".."):
            for text in (dots, f"{dots}/a", f"a/{dots}", f"a/{dots}/b", f"a/b/{dots}/c"):
                with self.subTest(text=text):
                    self.assertIs(is_path(text), False)

    def test_parts_with_dots_and_more(self):
        for part in ("...", "....", ".a", "..a", "a.", "a..", "a.b", "x..y", ".-", "..0", "._"):
            for text in (part, f"{part}/a", f"a/{part}", f"a/{part}/b"):
                with self.subTest(text=text):
                    self.assertIs(is_path(text), True)

    def test_what_is_no_name(self):
        for text in ("A", "a b", "a/B", "a" * 251, "a/b\n"):
            with self.subTest(text=text):
                self.assertIs(is_path(text), False)

    def test_no_strings(self):
        for thing in NO_STRINGS:
            with self.subTest(thing=thing):
                self.assertIs(is_path(thing), False)

    def test_by_name(self):
        self.assertIs(is_path(thing="a/b"), True)
        self.assertIs(is_path(thing="a/"), False)

    def test_the_example_of_the_document(self):
        found = [is_name("/x..y//"), is_path("a/..b"), is_path("a/.."), is_path("a//b"), is_path("/a")]
        self.assertEqual(found, [True, True, False, False, False])


if __name__ == "__main__":
    unittest.main()
