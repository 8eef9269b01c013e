"""Point [11], following, and the section "Unpacking" with `following`."""

import random
import unittest

from model_houses import any_house, any_members, left
from tarhouse.blobs import blob
from tarhouse.errors import Refused
from tarhouse.following import followed, strays
from tarhouse.houses import House
from tarhouse.members import Directory, File, Link, Sparse, Symlink
from tarhouse.unpacking import unpacked

MADE = ("directory", 493, 0)
FILE = ("file", b"x", 1, 1)


def arrow(target):
    return ("symlink", target, 511, 0)


class Case(unittest.TestCase):
    def goes(self, entries, name, path):
        """Check to which path following puts members with a name, and what it makes."""
        house = House.of(entries)
        made = [("/".join(path.split("/")[:many]), MADE) for many in range(1, path.count("/") + 1)]
        made = [row for row in made if not house.has(row[0])]
        kept = [row for row in entries if row[0] != path]
        members = [
            (File(name, b"new", mode=3, time=4), ("file", b"new", 3, 4)),
            (Sparse(name, 3, (1, b"p"), mode=3, time=4), ("file", b"\x00p\x00", 3, 4)),
            (Directory(name, mode=3, time=4), ("directory", 3, 4)),
            (Symlink(name, "t", mode=3, time=4), ("symlink", "t", 3, 4)),
        ]
        for member, thing in members:
            with self.subTest(member=member):
                self.assertEqual(followed(house, [member]), House.of(kept + made + [(path, thing)]))
                self.assertEqual(strays(house, [member]), [] if name == path else [(0, path)])
        self.assertEqual(house, House.of(entries))

    def leaves(self, entries, members, expected, stray=()):
        house = House.of(entries)
        self.assertEqual(followed(house, members).entries(), sorted(expected))
        self.assertEqual(followed(house, tuple(members)).entries(), sorted(expected))
        self.assertEqual(strays(house, members), list(stray))
        self.assertEqual(house, House.of(entries))

    def refused(self, entries, members, index, word, stray=()):
        house = House.of(entries)
        with self.assertRaises(Refused) as caught:
            followed(house, members)
        self.assertEqual((caught.exception.index, caught.exception.word), (index, word))
        self.assertEqual(strays(house, members), list(stray))
        self.assertEqual(house, House.of(entries))


class Symlinks(Case):
    def test_without_symlinks(self):
        self.goes([], "a", "a")
        self.goes([], "a/b/c", "a/b/c")
        self.goes([("a", MADE)], "a/b/c", "a/b/c")

    def test_at_the_beginning(self):
        self.goes([("d", MADE), ("s", arrow("d"))], "s/x", "d/x")
        self.goes([("d", MADE), ("s", arrow("d"))], "s/x/y/z", "d/x/y/z")
        self.goes([("d", MADE), ("d/x", MADE), ("s", arrow("d"))], "s/x/y", "d/x/y")

    def test_in_the_middle(self):
        self.goes([("a", MADE), ("a/s", arrow("../d")), ("d", MADE)], "a/s/x", "d/x")
        self.goes([("a", MADE), ("a/b", MADE), ("a/s", arrow("b"))], "a/s/x/y", "a/b/x/y")

    def test_one_after_the_other(self):
        entries = [("d", MADE), ("d/t", arrow("../e")), ("e", MADE), ("e/u", arrow("../d")), ("s", arrow("d"))]
        self.goes(entries, "s/t/x", "e/x")
        self.goes(entries, "s/t/u/x", "d/x")
        self.goes(entries, "s/t/u/t/u/x/y", "d/x/y")

    def test_symlinks_to_symlinks(self):
        self.goes([("d", MADE), ("s", arrow("t")), ("t", arrow("u")), ("u", arrow("d"))], "s/x", "d/x")
        self.goes([("d", MADE), ("d/e", MADE), ("s", arrow("t/e")), ("t", arrow("d"))], "s/x", "d/e/x")

    def test_targets_with_odd_parts(self):
        entries = [("a", MADE), ("a/b", MADE), ("c", MADE)]
        for target in (".", "./.", ".//", "../a", "b/..", "b/../b/.."):
            self.goes(entries + [("a/s", arrow(target))], "a/s/x", "a/x")
        for target in ("b", "b/", "b//", "./b", "b/.", "../a/b", ".//b", "../c/../a/b"):
            self.goes(entries + [("a/s", arrow(target))], "a/s/x", "a/b/x")
        for target in ("..", "../", "b/../..", "../c/.."):
            self.goes(entries + [("a/s", arrow(target))], "a/s/x", "x")
            self.goes(entries + [("a/s", arrow(target))], "a/s/x/y", "x/y")

    def test_the_root(self):
        self.goes([("s", arrow("."))], "s/x", "x")
        self.goes([("s", arrow("."))], "s/s/s/x", "x")
        self.goes([("s", arrow("."))], "s/x/s/y", "x/s/y")

    def test_what_stands_behind_the_symlink_is_replaced(self):
        entries = [("d", MADE), ("d/f", FILE), ("g", ("link", "d/f")), ("s", arrow("d"))]
        self.leaves(entries, [File("s/f", b"new", mode=2)],
                    [("d", MADE), ("d/f", ("file", b"new", 2, 0)), ("g", FILE), ("s", arrow("d"))], [(0, "d/f")])
        self.leaves(entries, [Symlink("s/f", "t")],
                    [("d", MADE), ("d/f", arrow("t")), ("g", FILE), ("s", arrow("d"))], [(0, "d/f")])
        self.leaves(entries, [Directory("s/g")], entries + [("d/g", MADE)], [(0, "d/g")])

    def test_the_last_part_is_never_followed(self):
        entries = [("d", MADE), ("d/t", arrow("..")), ("s", arrow("d"))]
        self.leaves(entries, [File("s", b"new", mode=2)],
                    [("d", MADE), ("d/t", arrow("..")), ("s", ("file", b"new", 2, 0))])
        self.leaves(entries, [Symlink("s/t", "x")], [("d", MADE), ("d/t", arrow("x")), ("s", arrow("d"))], [(0, "d/t")])
        self.refused(entries, [Directory("s")], 0, "occupied")
        self.refused(entries, [Directory("s/t")], 0, "occupied")
        self.leaves([("r", arrow("r"))], [File("r", b"x", mode=1, time=1)], [("r", FILE)])
        self.leaves([("r", arrow("/"))], [Symlink("r", "x")], [("r", arrow("x"))])

    def test_a_symlink_that_came_before(self):
        members = [Directory("a", mode=448), Symlink("s", "a/."), File("s/f", blob([]))]
        self.leaves([], members, [("a", ("directory", 448, 0)), ("a/f", ("file", b"", 420, 0)), ("s", arrow("a/."))],
                    [(2, "a/f")])

    def test_a_symlink_that_is_replaced_later(self):
        members = [Directory("a"), Directory("b"), Symlink("s", "a"), File("s/f", b""), Symlink("s", "b"),
                   File("s/f", b""), File("b/f", b"2")]
        expected = [("a", MADE), ("a/f", ("file", b"", 420, 0)), ("b", MADE), ("b/f", ("file", b"2", 420, 0)),
                    ("s", arrow("b"))]
        self.leaves([], members, expected, [(3, "a/f"), (5, "b/f")])

    def test_a_directory_that_comes_later(self):
        self.refused([("s", arrow("d"))], [File("s/f", b""), Directory("d")], 0, "parent")
        self.leaves([("s", arrow("d"))], [Directory("d"), File("s/f", b"")],
                    [("d", MADE), ("d/f", ("file", b"", 420, 0)), ("s", arrow("d"))], [(1, "d/f")])


class Refusals(Case):
    HOUSE = [
        ("d", MADE), ("d/f", FILE), ("d/o", arrow("../..")), ("d/s", arrow(".")), ("f", FILE), ("i", arrow("r/x")),
        ("l", arrow("/d")), ("m", arrow("x")), ("n", arrow("d/f/.")), ("o", arrow("..")), ("p", arrow("d/f")),
        ("q", arrow("r")), ("r", arrow("q")), ("s", arrow("d")),
    ]

    def all_refused(self, name, word):
        for member in (File(name, b"x"), Sparse(name, 3), Directory(name), Symlink(name, "t"), Link(name, "f")):
            self.refused(self.HOUSE, [member], 0, word)
            self.refused(self.HOUSE, [File("s/a", b""), member, File("s/b", b"")], 1, word, [(0, "d/a")])

    def test_name(self):
        for name in ("/", "/a", "a/", "a//b", "..", "./a", "s/..", "s//f", "o/../x", "f/./x"):
            self.all_refused(name, "name")

    def test_parent(self):
        for name in ("f/x", "d/f/x", "s/f/x", "d/s/f/x/y", "p/x", "p/x/y", "m/x", "m/x/y", "n/x", "s/s/f/x"):
            self.all_refused(name, "parent")

    def test_out(self):
        for name in ("o/x", "l/x", "d/o/x", "s/o/x", "s/s/o/x/y", "d/s/s/o/x"):
            self.all_refused(name, "out")

    def test_ring(self):
        for name in ("q/x", "r/x", "i/x", "r/x/y/z"):
            self.all_refused(name, "ring")

    def test_whichever_comes_first(self):
        for name, word in (("s/o/f/x", "out"), ("s/f/o/x", "parent"), ("q/o/x", "ring"), ("o/q/x", "out"),
                           ("m/o/x", "parent"), ("s/s/s/o/q/f/x", "out")):
            self.all_refused(name, word)
        # Below what is missing nothing can fail any more.
        self.refused(self.HOUSE, [Directory("s/y/o/q/f/x"), Link("s/y/o/x", "none")], 1, "target", [(0, "d/y/o/q/f/x")])

    def test_what_stands_at_the_path(self):
        for member, word in ((Directory("s/f"), "occupied"), (Directory("d/s/f"), "occupied"),
                             (Directory("s/s"), "occupied"), (Directory("p"), "occupied"),
                             (File("d", b""), "directory"), (Symlink("d", "t"), "directory"),
                             (Link("d", "none"), "directory")):
            self.refused(self.HOUSE, [member], 0, word)
        entries = [("d", MADE), ("d/e", MADE), ("s", arrow("d"))]
        self.refused(entries, [File("s/e", b"")], 0, "directory")
        self.refused(entries, [Link("s/e", "none")], 0, "directory")
        self.leaves(entries, [Directory("s/e", mode=1)], [("d", MADE), ("d/e", ("directory", 1, 0)), ("s", arrow("d"))],
                    [(0, "d/e")])

    def test_strays_up_to_the_first_refused_member(self):
        members = [File("s/a", b""), File("x", b""), File("s/f/x", b""), File("s/b", b""), File("/", b"")]
        self.refused(self.HOUSE, members, 2, "parent", [(0, "d/a")])


class LongPaths(Case):
    LONG = "y" * 200

    def house(self, many):
        """A house with a directory of a long path, to which the symlink `s` leads."""
        top = "y" * many
        return [("s", arrow(top)), (top, MADE)]

    def test_the_greatest(self):
        self.goes(self.house(200), "s/" + "x" * 49, "y" * 200 + "/" + "x" * 49)
        self.goes(self.house(200), "s/" + "x" * 24 + "/" + "z" * 24, "y" * 200 + "/" + "x" * 24 + "/" + "z" * 24)

    def test_too_long(self):
        for name in ("s/" + "x" * 50, "s/" + "x" * 200, "s/" + "x" * 24 + "/" + "z" * 25, "s/" + "x" * 60 + "/z"):
            for member in (File(name, b""), Directory(name), Symlink(name, "t"), Link(name, "none"), Sparse(name, 1)):
                self.refused(self.house(200), [member], 0, "name")

    def test_shorter_paths(self):
        top = "y" * 240
        self.goes([(top, arrow("."))], top + "/a", "a")
        self.goes([(top, arrow("."))], top + "/" + "s" * 9, "s" * 9)

    def test_what_fails_on_the_way_comes_first(self):
        entries = [("s", arrow("y" * 200)), ("y" * 200, MADE), ("y" * 200 + "/o", arrow("/")),
                   ("y" * 200 + "/f", FILE), ("y" * 200 + "/r", arrow("r"))]
        for part, word in (("o", "out"), ("f", "parent"), ("r", "ring")):
            self.refused(entries, [File(f"s/{part}/" + "x" * 100, b"")], 0, word)

    def test_targets_that_become_too_long(self):
        self.refused(self.house(200), [Link("l", "s/" + "x" * 50)], 0, "target")
        self.refused(self.house(200), [Link("d", "s/" + "x" * 100 + "/y")], 0, "target")
        self.refused(self.house(200), [Link("s/" + "x" * 50, "s/" + "x" * 50)], 0, "name")


class HardLinks(Case):
    HOUSE = [("d", MADE), ("d/f", FILE), ("g", ("file", b"g", 2, 2)), ("s", arrow("d")), ("t", arrow("d/f"))]

    def test_targets_through_symlinks(self):
        self.leaves(self.HOUSE, [Link("l", "s/f")], self.HOUSE + [("l", ("link", "d/f"))])
        self.leaves(self.HOUSE, [Link("s/l", "s/f")], self.HOUSE + [("d/l", ("link", "d/f"))], [(0, "d/l")])
        self.leaves(self.HOUSE, [Link("s/l", "g")], [row for row in self.HOUSE if row[0] != "g"]
                    + [("d/l", ("file", b"g", 2, 2)), ("g", ("link", "d/l"))], [(0, "d/l")])

    def test_to_its_own_path(self):
        self.leaves(self.HOUSE, [Link("s/f", "d/f")], self.HOUSE, [(0, "d/f")])
        self.leaves(self.HOUSE, [Link("d/f", "s/f")], self.HOUSE)
        self.leaves(self.HOUSE, [Link("s/f", "s/f")], self.HOUSE, [(0, "d/f")])

    def test_what_fails_is_target(self):
        house = self.HOUSE + [("o", arrow("..")), ("r", arrow("r")), ("m", arrow("x")), ("u", arrow("g"))]
        for target in ("x", "s/x", "s/x/f", "d", "s", "t", "o/d/f", "r/f", "m/f", "u/f", "g/f", "t/f", "s/f/x", "/d/f",
                       "s/", "s//f", "./s/f", "s/../g", "s/f/", "d/x/f"):
            self.refused(house, [Link("l", target)], 0, "target")
            self.refused(house, [File("s/a", b""), Link("x/y", target)], 1, "target", [(0, "d/a")])

    def test_the_last_part_of_the_target_is_not_followed(self):
        self.refused(self.HOUSE, [Link("l", "t")], 0, "target")
        self.refused(self.HOUSE + [("d/t", arrow("f"))], [Link("l", "s/t")], 0, "target")

    def test_nothing_is_made_for_the_target(self):
        self.refused(self.HOUSE, [Link("l", "x/y")], 0, "target")
        self.refused([], [Link("a/b", "a/b")], 0, "target")
        self.refused([], [Link("a/b", "a/c")], 0, "target")

    def test_the_order_of_the_words(self):
        self.refused(self.HOUSE, [Link("g/x", "none")], 0, "parent")
        self.refused(self.HOUSE, [Link("d", "none")], 0, "directory")


class AsUnpacking(Case):
    def test_lists_that_plain_unpacking_does_not_refuse(self):
        source = random.Random(12)
        right = 0
        for _ in range(2000):
            house = any_house(source)
            members = any_members(source, 5)
            try:
                house_left = unpacked(house, members)
            except Refused:
                continue
            right += 1
            self.assertEqual(followed(house, members), house_left)
            self.assertEqual(strays(house, members), [])
        self.assertGreater(right, 200)

    def test_as_the_model(self):
        source = random.Random(13)
        names = ["s/x", "s/t/x", "a/s/x", "s", "t", "a/s", "a", "b", "a/b", "s/b", "s/s", "b/t/x", "s/a/x", "f", "s//b"]
        words = {}
        for k in range(6000):
            house = any_house(source, 0.4)
            if k % 2:
                members = any_members(source, 6, names, names)
            else:
                members = any_members(source, 6)
            expected, paths = left(house, members, follows=True)
            told = [(at, path) for at, path in enumerate(paths) if path != members[at].name]
            self.assertEqual(strays(house, members), told)
            if isinstance(expected, House):
                self.assertEqual(followed(house, members), expected)
                words[None, bool(told)] = words.get((None, bool(told)), 0) + 1
            else:
                self.refused(house.entries(), members, *expected, told)
                words[expected[1]] = words.get(expected[1], 0) + 1
        for word in ("name", "parent", "out", "ring", "occupied", "directory", "target", (None, True), (None, False)):
            self.assertGreater(words.get(word, 0), 20, word)


class Arguments(Case):
    def test_nothing(self):
        self.leaves([], [], [])
        house = House.of([("a", MADE)])
        self.assertEqual(followed(house, []), house)
        self.assertIsNot(followed(house, []), house)

    def test_the_members_stay(self):
        members = [Directory("a"), Symlink("s", "a"), File("s/f", b"")]
        followed(House(), members)
        strays(House(), members)
        self.assertEqual(members, [Directory("a"), Symlink("s", "a"), File("s/f", b"")])

    def test_what_is_returned_is_new(self):
        members = [Directory("a"), Symlink("s", "a"), File("s/f", b"")]
        strays(House(), members).clear()
        self.assertEqual(strays(House(), members), [(2, "a/f")])

    def test_by_name(self):
        members = [Directory("a"), Symlink("s", "a"), File("s/f", b"")]
        self.assertEqual(strays(members=members, house=House()), [(2, "a/f")])
        self.assertTrue(followed(members=members, house=House()).has("a/f"))

    def test_long_chains(self):
        entries = [(f"p{k}", arrow(f"p{k + 1}")) for k in range(3000)] + [("p3000", MADE)]
        house = House.of(entries)
        self.assertTrue(followed(house, [File("p0/x", b"")]).has("p3000/x"))
        self.assertEqual(strays(house, [File("p0/x", b"")]), [(0, "p3000/x")])

    def test_the_example_of_the_document(self):
        D = Directory("a", mode=448)
        self.assertEqual(strays(House(), [D, Symlink("s", "a/."), File("s/f", blob([]))]), [(2, "a/f")])


if __name__ == "__main__":
    unittest.main()
