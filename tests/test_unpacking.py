"""Points [2], [3] and [11], and the section "Unpacking" but for following."""

import random
import unittest

from model_houses import any_house, any_members, left
from tarhouse.blobs import blob
from tarhouse.errors import Refused
from tarhouse.houses import House
from tarhouse.members import Directory, File, Link, Sparse, Symlink
from tarhouse.unpacking import unpacked, walked

A = File("a/b", blob([1, 2, 3]), time=7)
B = Link("c", "a/b")
D = Directory("a", mode=448)
MADE = ("directory", 493, 0)


class Case(unittest.TestCase):
    def leaves(self, entries, members, expected):
        """Check what unpacking leaves; `entries` are those of the house before."""
        house = House.of(entries)
        for given in (members, tuple(members)):
            self.assertEqual(unpacked(house, given).entries(), expected)
        self.assertEqual(house, House.of(entries))
        steps = list(walked(house, members))
        self.assertEqual(len(steps), len(members))
        if members:
            self.assertEqual(steps[-1].entries(), expected)

    def refused(self, entries, members, index, word):
        house = House.of(entries)
        with self.assertRaises(Refused) as caught:
            unpacked(house, members)
        self.assertEqual((caught.exception.index, caught.exception.word), (index, word))
        self.assertEqual(house, House.of(entries))
        steps = walked(house, members)
        for many in range(index):
            self.assertEqual(next(steps), unpacked(house, members[:many + 1]))
        with self.assertRaises(Refused) as caught:
            next(steps)
        self.assertEqual((caught.exception.index, caught.exception.word), (index, word))


class Kinds(Case):
    def test_nothing(self):
        self.leaves([], [], [])
        self.leaves([("a", MADE)], [], [("a", MADE)])

    def test_each_kind(self):
        self.leaves([], [File("f", b"xy", mode=1, time=2)], [("f", ("file", b"xy", 1, 2))])
        self.leaves([], [Directory("d", mode=1, time=2)], [("d", ("directory", 1, 2))])
        self.leaves([], [Symlink("s", "../x//", mode=1, time=2)], [("s", ("symlink", "../x//", 1, 2))])
        self.leaves([("f", ("file", b"x", 3, 4))], [Link("l", "f", mode=1, time=2)],
                    [("f", ("file", b"x", 3, 4)), ("l", ("link", "f"))])

    def test_sparse_files_are_put_as_files(self):
        member = Sparse("p", 5, (1, b"\x09"), (3, b"\x08"), mode=1, time=2)
        self.leaves([], [member], [("p", ("file", b"\x00\x09\x00\x08\x00", 1, 2))])
        self.leaves([], [Sparse("p", 4096)], [("p", ("file", bytes(4096), 420, 0))])
        self.leaves([], [Sparse("p", 0)], [("p", ("file", b"", 420, 0))])

    def test_directories_that_are_there(self):
        self.leaves([("d", MADE), ("d/f", ("file", b"", 1, 1))], [Directory("d", mode=1, time=2)],
                    [("d", ("directory", 1, 2)), ("d/f", ("file", b"", 1, 1))])
        self.leaves([], [Directory("d"), Directory("d", mode=448, time=9)], [("d", ("directory", 448, 9))])

    def test_names_with_odd_parts(self):
        self.leaves([], [File("..a/...", b"")], [("..a", MADE), ("..a/...", ("file", b"", 420, 0))])


class Above(Case):
    def test_what_is_missing_is_made(self):
        for member, thing in ((File("a/b/c", b"x"), ("file", b"x", 420, 0)), (Directory("a/b/c"), MADE),
                              (Symlink("a/b/c", "t"), ("symlink", "t", 511, 0)),
                              (Sparse("a/b/c", 1), ("file", b"\x00", 420, 0))):
            self.leaves([], [member], [("a", MADE), ("a/b", MADE), ("a/b/c", thing)])
            self.leaves([("a", ("directory", 448, 5))], [member],
                        [("a", ("directory", 448, 5)), ("a/b", MADE), ("a/b/c", thing)])
        self.leaves([("f", ("file", b"x", 1, 2))], [Link("a/b/c", "f")],
                    [("a", MADE), ("a/b", MADE), ("a/b/c", ("file", b"x", 1, 2)), ("f", ("link", "a/b/c"))])

    def test_eight_parts(self):
        parts = "abcdefgh"
        expected = [("/".join(parts[:many]), MADE) for many in range(1, 9)]
        self.leaves([], [Directory("/".join(parts))], expected)

    def test_made_directories_are_set_later(self):
        self.leaves([], [A, D], [("a", ("directory", 448, 0)), ("a/b", ("file", b"\x01\x02\x03", 420, 7))])
        self.leaves([], [D, A], [("a", ("directory", 448, 0)), ("a/b", ("file", b"\x01\x02\x03", 420, 7))])


class Replacing(Case):
    FILE = ("file", b"old", 1, 1)

    def test_files_and_symlinks(self):
        for old in (self.FILE, ("symlink", "t", 1, 1)):
            self.leaves([("p", old)], [File("p", b"new")], [("p", ("file", b"new", 420, 0))])
            self.leaves([("p", old)], [Sparse("p", 2)], [("p", ("file", b"\x00\x00", 420, 0))])
            self.leaves([("p", old)], [Symlink("p", "u")], [("p", ("symlink", "u", 511, 0))])
            self.leaves([("f", self.FILE), ("p", old)], [Link("p", "f")], [("f", self.FILE), ("p", ("link", "f"))])

    def test_others_that_shared_it_keep_it(self):
        shared = [("p", self.FILE), ("q", ("link", "p")), ("r", ("link", "p"))]
        self.leaves(shared, [File("p", b"new")],
                    [("p", ("file", b"new", 420, 0)), ("q", self.FILE), ("r", ("link", "q"))])
        self.leaves(shared, [File("q", b"new")],
                    [("p", self.FILE), ("q", ("file", b"new", 420, 0)), ("r", ("link", "p"))])
        self.leaves(shared, [Symlink("p", "t")],
                    [("p", ("symlink", "t", 511, 0)), ("q", self.FILE), ("r", ("link", "q"))])

    def test_the_same_file_again_is_not_shared(self):
        shared = [("p", self.FILE), ("q", ("link", "p"))]
        self.leaves(shared, [File("p", b"old", mode=1, time=1)], [("p", self.FILE), ("q", self.FILE)])

    def test_two_files_of_a_kind_are_not_shared(self):
        self.leaves([], [File("p", b"x"), File("q", b"x")],
                    [("p", ("file", b"x", 420, 0)), ("q", ("file", b"x", 420, 0))])
        self.leaves([], [A, A], [("a", MADE), ("a/b", ("file", b"\x01\x02\x03", 420, 7))])


class HardLinks(Case):
    FILE = ("file", b"x", 1, 1)

    def test_lesser_and_greater_targets(self):
        self.leaves([], [File("b", b"x", mode=1, time=1), Link("c", "b"), Link("a", "b")],
                    [("a", self.FILE), ("b", ("link", "a")), ("c", ("link", "a"))])

    def test_the_mode_and_time_do_not_matter(self):
        self.leaves([("f", self.FILE)], [Link("g", "f", mode=4095, time=9)], [("f", self.FILE), ("g", ("link", "f"))])

    def test_chains(self):
        self.leaves([("f", self.FILE)], [Link("e", "f"), Link("d", "e"), Link("g", "d")],
                    [("d", self.FILE), ("e", ("link", "d")), ("f", ("link", "d")), ("g", ("link", "d"))])

    def test_to_its_own_path(self):
        self.leaves([("f", self.FILE)], [Link("f", "f", mode=9, time=9)], [("f", self.FILE)])
        shared = [("f", self.FILE), ("g", ("link", "f"))]
        self.leaves(shared, [Link("g", "g")], shared)
        self.leaves(shared, [Link("g", "f")], shared)
        self.leaves(shared, [Link("f", "g")], shared)

    def test_to_its_own_path_when_no_file_stands_there(self):
        self.refused([], [Link("f", "f")], 0, "target")
        self.refused([("f", ("symlink", "g", 1, 1)), ("g", self.FILE)], [Link("f", "f")], 0, "target")
        self.refused([("f", MADE)], [Link("f", "f")], 0, "directory")

    def test_a_target_that_is_replaced_later(self):
        self.leaves([("f", self.FILE)], [Link("g", "f"), File("f", b"new")],
                    [("f", ("file", b"new", 420, 0)), ("g", self.FILE)])
        self.leaves([("f", self.FILE)], [Link("g", "f"), Symlink("f", "t"), Link("h", "g")],
                    [("f", ("symlink", "t", 511, 0)), ("g", self.FILE), ("h", ("link", "g"))])
        self.leaves([("f", self.FILE)], [Link("g", "f"), File("f", b"new"), Link("h", "f")],
                    [("f", ("file", b"new", 420, 0)), ("g", self.FILE), ("h", ("link", "f"))])

    def test_to_a_replaced_file(self):
        self.leaves([("f", self.FILE), ("g", ("link", "f"))], [File("f", b"new"), Link("g", "f")],
                    [("f", ("file", b"new", 420, 0)), ("g", ("link", "f"))])

    def test_files_that_swap(self):
        self.leaves([("a", ("file", b"a", 1, 1)), ("b", ("file", b"b", 2, 2))],
                    [Link("t", "a"), Link("a", "b"), Link("b", "t"), Symlink("t", "x")],
                    [("a", ("file", b"b", 2, 2)), ("b", ("file", b"a", 1, 1)), ("t", ("symlink", "x", 511, 0))])

    def test_to_sparse_files(self):
        self.leaves([], [Sparse("p", 2, (0, b"x")), Link("l", "p")],
                    [("l", ("file", b"x\x00", 420, 0)), ("p", ("link", "l"))])

    def test_across_directories(self):
        self.leaves([], [A, B, Link("d/e/f", "c")],
                    [("a", MADE), ("a/b", ("file", b"\x01\x02\x03", 420, 7)), ("c", ("link", "a/b")), ("d", MADE),
                     ("d/e", MADE), ("d/e/f", ("link", "a/b"))])


class Refusals(Case):
    HOUSE = [("d", MADE), ("d/f", ("file", b"", 1, 1)), ("f", ("file", b"", 2, 2)), ("s", ("symlink", "d", 511, 0))]

    def of_each_kind(self, name, target="f"):
        return [File(name, b"x"), Sparse(name, 3), Directory(name), Symlink(name, "t"), Link(name, target)]

    def test_name(self):
        for name in ("/", "/a", "a/", "a//b", ".", "..", "./a", "d/..", "f/../x"):
            for member in self.of_each_kind(name):
                self.refused(self.HOUSE, [member], 0, "name")
                self.refused(self.HOUSE, [A, B, member, D], 2, "name")

    def test_parent(self):
        for name in ("f/x", "s/x", "d/f/x", "f/x/y", "s/f", "s/x/y/z"):
            for member in self.of_each_kind(name):
                self.refused(self.HOUSE, [member], 0, "parent")
        for member in self.of_each_kind("c/x", "a/b"):
            self.refused([], [A, B, member], 2, "parent")

    def test_occupied(self):
        for name in ("f", "s", "d/f"):
            self.refused(self.HOUSE, [Directory(name)], 0, "occupied")
            self.refused(self.HOUSE, [A, Directory(name)], 1, "occupied")
        self.refused([], [A, Directory("a/b")], 1, "occupied")

    def test_directory(self):
        for member in self.of_each_kind("d"):
            if not isinstance(member, Directory):
                self.refused(self.HOUSE, [member], 0, "directory")
        for member in self.of_each_kind("a", "a/b"):
            if not isinstance(member, Directory):
                self.refused([], [A, member], 1, "directory")

    def test_target(self):
        for target in ("x", "d", "s", "d/x", "s/f", "f/", "/f", "./f", "d//f", "d/../f", "..", "f/x"):
            self.refused(self.HOUSE, [Link("l", target)], 0, "target")
            self.refused(self.HOUSE, [Link("f", target)], 0, "target")
            self.refused(self.HOUSE, [Link("x/y", target)], 0, "target")
        self.refused([], [Symlink("a", "b"), Link("c", "a")], 1, "target")
        self.refused([], [Link("c", "a/b"), A], 0, "target")
        self.refused([], [Link("a/b", "a")], 0, "target")

    def test_two_that_apply_at_once(self):
        self.refused(self.HOUSE, [Link("f/", "x")], 0, "name")
        self.refused(self.HOUSE, [Directory("f/..")], 0, "name")
        self.refused(self.HOUSE, [Link("f/x", "x")], 0, "parent")
        self.refused(self.HOUSE, [Link("s/f", "x")], 0, "parent")
        self.refused(self.HOUSE, [Directory("s/f")], 0, "parent")
        self.refused(self.HOUSE, [Link("d", "x")], 0, "directory")
        self.refused(self.HOUSE, [Link("d", "d")], 0, "directory")

    def test_the_first_member_that_is_refused(self):
        self.refused(self.HOUSE, [A, Directory("f"), File("d", b"")], 1, "occupied")
        self.refused(self.HOUSE, [A, File("/", b""), Directory("f")], 1, "name")
        self.refused(self.HOUSE, [File("d", b""), File("/", b"")], 0, "directory")

    def test_nothing_is_made_for_a_refused_member(self):
        house = House.of([])
        with self.assertRaises(Refused):
            unpacked(house, [Link("x/y/z", "w")])
        self.assertEqual(house, House())


class Steps(Case):
    def test_a_house_after_each_member(self):
        steps = walked(House(), [A, B, D])
        self.assertEqual(next(steps).entries(), [("a", MADE), ("a/b", ("file", b"\x01\x02\x03", 420, 7))])
        self.assertEqual(next(steps), unpacked(House(), [A, B]))
        self.assertEqual(next(steps), unpacked(House(), [A, B, D]))
        with self.assertRaises(StopIteration):
            next(steps)
        self.assertEqual(list(walked(House(), [])), [])

    def test_the_error_comes_in_place_of_the_house(self):
        steps = walked(House(), [A, File("a", b""), B])
        self.assertEqual(next(steps), unpacked(House(), [A]))
        with self.assertRaises(Refused) as caught:
            next(steps)
        self.assertEqual((caught.exception.index, caught.exception.word), (1, "directory"))
        with self.assertRaises(StopIteration):
            next(steps)

    def test_the_houses_share_nothing(self):
        first, second, third = walked(House(), [A, B, File("a/b", b"")])
        self.assertEqual(first.entries(), [("a", MADE), ("a/b", ("file", b"\x01\x02\x03", 420, 7))])
        self.assertEqual(second.sharers("c"), ["a/b", "c"])
        self.assertEqual(third.sharers("c"), ["c"])
        self.assertEqual([len(first), len(second), len(third)], [2, 3, 3])


class Arguments(Case):
    def test_the_house_and_the_members_stay(self):
        house = House.of([("a", ("directory", 1, 1)), ("c", ("file", b"c", 1, 1)), ("d", ("link", "c"))])
        kept = house.entries()
        members = [A, B, D, Symlink("d", "e")]
        shapes = [dict(vars(member)) for member in members]
        new = unpacked(house, members)
        list(walked(house, members))
        self.assertEqual(house.entries(), kept)
        self.assertEqual(house.sharers("c"), ["c", "d"])
        self.assertEqual(members, [A, B, D, Symlink("d", "e")])
        self.assertEqual([vars(member) for member in members], shapes)
        self.assertNotEqual(new, house)

    def test_without_members_the_house_is_a_new_one(self):
        house = House.of([("a", MADE)])
        new = unpacked(house, [])
        self.assertEqual(new, house)
        self.assertIsNot(new, house)

    def test_what_is_unpacked_can_be_unpacked_into(self):
        house = unpacked(House(), [A, B])
        for k in range(5):
            house = unpacked(house, [Link(f"x{k}", "c"), File("c", bytes([k])), D])
        self.assertEqual(house.sharers("a/b"), ["a/b", "x0"])
        self.assertEqual(house.thing_at("c"), ("file", b"\x04", 420, 0))

    def test_by_name(self):
        self.assertEqual(unpacked(members=[A], house=House()), unpacked(House(), [A]))
        self.assertEqual(list(walked(members=[A], house=House())), [unpacked(House(), [A])])

    def test_members_may_be_a_tuple(self):
        self.assertEqual(unpacked(House(), (A, B)), unpacked(House(), [A, B]))
        self.assertEqual(len(list(walked(House(), (A, B)))), 2)


class AnyMembers(Case):
    def test_as_the_model(self):
        source = random.Random(11)
        words = set()
        for _ in range(4000):
            house = any_house(source, 0.1) if source.random() < 0.7 else House()
            members = any_members(source, 7)
            if source.random() < 0.1:
                members.insert(source.randrange(len(members) + 1), Directory("a//b"))
            expected, _ = left(house, members)
            if isinstance(expected, House):
                self.assertEqual(unpacked(house, members), expected)
                words.add(None)
            else:
                words.add(expected[1])
                self.refused(house.entries(), members, *expected)
        self.assertEqual(words, {None, "name", "parent", "occupied", "directory", "target"})


class Examples(unittest.TestCase):
    def test_the_examples_of_the_document(self):
        H = unpacked(House(), [A, B, D])
        found = [H.entries()[0], H.entries()[2], H.thing_at("c") == H.thing_at("a/b"), H.sharers("c"), len(H),
                 H.has("a/x")]
        self.assertEqual(found, [("a", ("directory", 448, 0)), ("c", ("link", "a/b")), True, ["a/b", "c"], 3, False])
        with self.assertRaises(Refused) as caught:
            unpacked(H, [D, Directory("c")])
        self.assertEqual((caught.exception.index, caught.exception.word), (1, "occupied"))


if __name__ == "__main__":
    unittest.main()
