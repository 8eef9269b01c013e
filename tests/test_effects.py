"""Points [3] and [12], and `effect` of the section "Effects"."""

import random
import unittest

from all_houses import ALL_NEEDS, all_houses, left, met, predicted
from model_houses import any_members
from tarhouse.blobs import blob
from tarhouse.effects import effect
from tarhouse.members import Directory, File, Link, Sparse, Symlink

A = File("a/b", blob([1, 2, 3]), time=7)
B = Link("c", "a/b")
D = Directory("a", mode=448)
GROUND = ("absent", "directory")
PLACE = ("absent", "file", "symlink")
SAME, MADE = ("same",), ("made",)


def new(path, data=b"1", mode=420, time=0):
    return ("file", data, mode, time, path)


def put(path, data=b"1"):
    return File(path, data)


class Case(unittest.TestCase):
    def told(self, members, rows, extra=()):
        """Check an effect, and what all houses over its paths, and these, become by it."""
        for given in (members, tuple(members)):
            self.assertEqual(effect(given), rows)
        self.holds(members, extra)

    def holds(self, members, extra=(), **kinds):
        rows = effect(members)
        if rows is not None:
            self.assertEqual([path for path, _, _ in rows], met(members))
        self.assertIn(type(rows), (list, type(None)))
        stood = {path: set() for path in met(members)}
        for house in all_houses(sorted({*met(members), *extra}), **kinds):
            after = left(house, members)
            self.assertEqual(after, predicted(house, rows), house.entries())
            if after is not None:
                for path in stood:
                    stood[path].add(house.thing_at(path)[0] if house.has(path) else "absent")
        # What may stand at a path does stand there in some house that is not refused.
        self.assertEqual([sorted(stood[path]) for path, _, _ in rows or []], [list(row[1]) for row in rows or []])


class Outcomes(Case):
    def test_the_empty_list(self):
        self.told([], [], ["a"])

    def test_a_file(self):
        self.told([put("a")], [("a", PLACE, new("a"))], ["b", "c"])
        self.told([File("a", b"", mode=0, time=9)], [("a", PLACE, new("a", b"", 0, 9))], ["b"])

    def test_a_sparse_file(self):
        self.told([Sparse("a", 3, (1, b"x"), mode=5)], [("a", PLACE, new("a", b"\x00x\x00", 5))], ["b"])
        self.told([Sparse("a", 0)], [("a", PLACE, new("a", b""))], ["b"])

    def test_a_symlink(self):
        self.told([Symlink("a", "../x", mode=1, time=2)], [("a", PLACE, ("symlink", "../x", 1, 2))], ["b"])

    def test_a_directory(self):
        self.told([Directory("a")], [("a", GROUND, ("directory", 493, 0))], ["a/b"])
        self.told([Directory("a", mode=1, time=2)], [("a", GROUND, ("directory", 1, 2))], ["b"])

    def test_a_link_to_a_file_of_before(self):
        self.told([Link("a", "b", mode=9, time=9)], [("a", PLACE, ("moved", "b")), ("b", ("file",), SAME)], ["c"])

    def test_a_link_to_its_own_path(self):
        self.told([Link("a", "a")], [("a", ("file",), SAME)], ["b"])
        self.told([Link("a/b", "a/b")], [("a", ("directory",), SAME), ("a/b", ("file",), SAME)])
        self.told([put("a"), Link("a", "a")], [("a", PLACE, new("a"))], ["b"])

    def test_what_is_made(self):
        self.told([put("a/b")], [("a", GROUND, MADE), ("a/b", PLACE, new("a/b"))], ["c"])
        self.told([Directory("a/b/c")], [
            ("a", GROUND, MADE), ("a/b", GROUND, MADE), ("a/b/c", GROUND, ("directory", 493, 0)),
        ])

    def test_what_is_made_and_set(self):
        self.told([put("a/b"), D], [("a", GROUND, ("directory", 448, 0)), ("a/b", PLACE, new("a/b"))])
        self.told([D, put("a/b")], [("a", GROUND, ("directory", 448, 0)), ("a/b", PLACE, new("a/b"))])
        self.told([D, Directory("a", mode=1), put("a/b")], [
            ("a", GROUND, ("directory", 1, 0)), ("a/b", PLACE, new("a/b")),
        ])
        self.told([put("a/b"), Directory("a"), D, Directory("a", time=3)], [
            ("a", GROUND, ("directory", 493, 3)), ("a/b", PLACE, new("a/b")),
        ])

    def test_what_is_made_only_if_it_may_be_absent(self):
        self.told([Directory("a/b"), Link("c", "a/d")], [
            ("a", ("directory",), SAME), ("a/b", GROUND, ("directory", 493, 0)), ("a/d", ("file",), SAME),
            ("c", PLACE, ("moved", "a/d")),
        ])
        self.told([Link("a/c", "a/d")], [
            ("a", ("directory",), SAME), ("a/c", PLACE, ("moved", "a/d")), ("a/d", ("file",), SAME),
        ])
        self.told([D, B], [
            ("a", ("directory",), ("directory", 448, 0)), ("a/b", ("file",), SAME), ("c", PLACE, ("moved", "a/b")),
        ])

    def test_members_below_paths_that_are_met_otherwise(self):
        self.told([Directory("a"), put("a/b"), Directory("a/c"), put("a/c/d", b"2")], [
            ("a", GROUND, ("directory", 493, 0)), ("a/b", PLACE, new("a/b")),
            ("a/c", GROUND, ("directory", 493, 0)), ("a/c/d", PLACE, new("a/c/d", b"2")),
        ])

    def test_what_is_replaced(self):
        self.told([put("a"), put("a", b"2")], [("a", PLACE, new("a", b"2"))], ["b"])
        self.told([put("a"), Symlink("a", "t")], [("a", PLACE, ("symlink", "t", 511, 0))], ["b"])
        self.told([Symlink("a", "t"), Symlink("a", "u"), put("a")], [("a", PLACE, new("a"))], ["b"])
        self.told([Symlink("a", "t"), Link("a", "b")], [("a", PLACE, ("moved", "b")), ("b", ("file",), SAME)])


class Links(Case):
    def test_files_that_the_list_put(self):
        self.told([put("b"), Link("a", "b")], [("a", PLACE, new("a")), ("b", PLACE, new("a"))], ["c"])
        self.told([put("a"), Link("b", "a"), Link("c", "b")], [(path, PLACE, new("a")) for path in "abc"])
        self.told([A, B], [
            ("a", GROUND, MADE), ("a/b", PLACE, new("a/b", b"\x01\x02\x03", 420, 7)),
            ("c", PLACE, new("a/b", b"\x01\x02\x03", 420, 7)),
        ])

    def test_replaced_behind_the_link(self):
        self.told([put("a"), Link("b", "a"), put("a", b"2")], [("a", PLACE, new("a", b"2")), ("b", PLACE, new("b"))])
        self.told([put("a"), Link("b", "a"), put("b", b"2")], [("a", PLACE, new("a")), ("b", PLACE, new("b", b"2"))])
        self.told([put("a"), Link("b", "a"), Link("c", "b"), Symlink("a", "t")], [
            ("a", PLACE, ("symlink", "t", 511, 0)), ("b", PLACE, new("b")), ("c", PLACE, new("b")),
        ])
        self.told([Link("a", "b"), put("b", b"2")], [("a", PLACE, ("moved", "b")), ("b", ("file",), new("b", b"2"))])
        self.told([Link("a", "b"), Symlink("b", "t")], [
            ("a", PLACE, ("moved", "b")), ("b", ("file",), ("symlink", "t", 511, 0)),
        ])

    def test_replaced_before_the_link(self):
        self.told([put("b"), put("b", b"2"), Link("a", "b")], [("a", PLACE, new("a", b"2")), ("b", PLACE, new("a", b"2"))])

    def test_files_of_equal_things_are_not_shared(self):
        self.told([put("a"), put("b")], [("a", PLACE, new("a")), ("b", PLACE, new("b"))], ["c"])

    def test_links_to_links(self):
        self.told([Link("b", "a"), Link("c", "b")], [
            ("a", ("file",), SAME), ("b", PLACE, ("moved", "a")), ("c", PLACE, ("moved", "a")),
        ])

    def test_files_that_move_through_several_paths(self):
        swapped = [Link("t", "a"), Link("a", "b"), Link("b", "t")]
        self.told(swapped, [
            ("a", ("file",), ("moved", "b")), ("b", ("file",), ("moved", "a")), ("t", PLACE, ("moved", "a")),
        ])
        self.told(swapped + [put("t")], [
            ("a", ("file",), ("moved", "b")), ("b", ("file",), ("moved", "a")), ("t", PLACE, new("t")),
        ])
        back = swapped + [Link("t", "a"), Link("a", "b"), Link("b", "t")]
        self.told(back, [("a", ("file",), SAME), ("b", ("file",), SAME), ("t", PLACE, ("moved", "b"))])

    def test_a_file_that_comes_back(self):
        self.told([Link("b", "a"), put("a"), Link("a", "b")], [("a", ("file",), SAME), ("b", PLACE, ("moved", "a"))])
        self.told([Link("b", "a"), Link("a", "b")], [("a", ("file",), SAME), ("b", PLACE, ("moved", "a"))])
        self.told([Link("b", "a"), Symlink("a", "t"), Link("a", "b"), Link("c", "a")], [
            ("a", ("file",), SAME), ("b", PLACE, ("moved", "a")), ("c", PLACE, ("moved", "a")),
        ])

    def test_both_ways_round(self):
        self.told([Link("a", "b"), Link("b", "a")], [("a", PLACE, ("moved", "b")), ("b", ("file",), SAME)], ["c"])

    def test_a_file_of_before_that_is_put_first(self):
        # The target is what the list put: before, anything but a directory may have stood there.
        self.told([put("a"), Link("b", "a"), Link("a", "c")], [
            ("a", PLACE, ("moved", "c")), ("b", PLACE, new("b")), ("c", ("file",), SAME),
        ])


class Needs(Case):
    def test_each_combination(self):
        found = set()
        source = random.Random(4)
        for _ in range(500):
            rows = effect(any_members(source, 5))
            found |= {needs for _, needs, _ in rows or []}
        self.assertEqual(found, {GROUND, PLACE, ("directory",), ("file",)})

    def test_a_target_that_is_put_later(self):
        self.told([Link("a", "b"), put("b")], [("a", PLACE, ("moved", "b")), ("b", ("file",), new("b"))])
        self.told([Symlink("b", "t"), Link("a", "c"), Link("b", "c")], [
            ("a", PLACE, ("moved", "c")), ("b", PLACE, ("moved", "c")), ("c", ("file",), SAME),
        ])

    def test_what_is_above_a_target(self):
        self.told([Link("a", "b/c/d")], [
            ("a", PLACE, ("moved", "b/c/d")), ("b", ("directory",), SAME), ("b/c", ("directory",), SAME),
            ("b/c/d", ("file",), SAME),
        ])


class Never(Case):
    def never(self, *members):
        self.assertIsNone(effect(list(members)))
        for more in ([], [put("x")]):
            self.told(more + list(members) + more, None)

    def test_no_paths(self):
        for name in ("/a", "a/", "a//b", ".", "..", "a/..", "./a", "/"):
            for member in (put(name), Sparse(name, 0), Directory(name), Symlink(name, "t"), Link(name, "a")):
                self.assertIsNone(effect([member]))
                self.assertIsNone(effect([put("a"), member]))
            self.assertIsNone(effect([Link("a", name)]))
            self.assertIsNone(effect([put("a"), Link("b", name)]))

    def test_the_target_of_a_symlink_may_be_any_name(self):
        self.told([Symlink("a", "/..")], [("a", PLACE, ("symlink", "/..", 511, 0))])

    def test_parent(self):
        self.never(put("a"), put("a/b"))
        self.never(Symlink("a", "t"), Directory("a/b"))
        self.never(Link("a", "c"), Symlink("a/b", "t"))
        self.never(Link("c", "a"), put("a/b"))
        self.never(put("a/b"), put("a/b/c"))

    def test_occupied(self):
        self.never(put("a"), Directory("a"))
        self.never(Symlink("a", "t"), Directory("a"))
        self.never(Link("a", "b"), Directory("a"))
        self.never(Link("a", "b"), Directory("b"))

    def test_directory(self):
        for member in (put("a"), Sparse("a", 0), Symlink("a", "t"), Link("a", "b"), Link("a", "a")):
            self.never(Directory("a"), member)
            self.never(put("a/c"), member)
        self.never(Link("c", "a/b"), put("a"))

    def test_target(self):
        self.never(Directory("a"), Link("b", "a"))
        self.never(Symlink("a", "t"), Link("b", "a"))
        self.never(put("a/b"), Link("c", "a"))
        self.never(put("a"), Link("b", "a/c"))
        self.never(Link("a/b", "a"))
        self.never(Link("a", "a/b"))
        self.never(Directory("a/b"), Link("c", "a/b/c"), Link("d", "a/b"))
        self.never(Link("c", "a/b"), Link("c", "a"))


class Example(Case):
    def test_the_document(self):
        self.told([D, B], [
            ("a", ("directory",), ("directory", 448, 0)), ("a/b", ("file",), ("same",)),
            ("c", ("absent", "file", "symlink"), ("moved", "a/b")),
        ])
        self.assertIsNone(effect([A, File("a", blob([]))]))


class Searches(Case):
    def test_all_houses(self):
        source = random.Random(12)
        for names in (["a", "b", "c"], ["a", "a/b", "c"], ["a/b", "a/c", "a"], ["a/a", "b"]):
            for _ in range(60):
                self.holds(any_members(source, 5, tuple(names), tuple(names)), ["a"])

    def test_with_a_path_that_the_list_does_not_meet(self):
        source = random.Random(13)
        for names, extra in ((["a", "b"], ["z"]), (["a", "b"], ["a/z", "a"]), (["a/b"], ["z", "a/z"])):
            for _ in range(60):
                self.holds(any_members(source, 5, tuple(names), tuple(names)), extra)

    def test_longer_lists(self):
        source = random.Random(14)
        kinds = {"directories": (("directory", 1, 1),), "symlinks": (("symlink", "t", 511, 0),),
                 "files": (("file", b"1", 0, 0),)}
        for _ in range(60):
            self.holds(any_members(source, 12, ("a", "b", "a/b", "c"), ("a", "b", "a/b", "c")), **kinds)


class Values(Case):
    def test_what_is_returned_is_new(self):
        members = [D, B, put("e")]
        first = effect(members)
        expected = list(first)
        first.clear()
        self.assertEqual(effect(members), expected)
        self.assertEqual(members, [D, B, put("e")])
        self.assertIsNot(effect([]), effect([]))

    def test_kinds_of_values(self):
        for row in effect([D, B, put("e/f")]):
            self.assertIs(type(row), tuple)
            self.assertIs(type(row[1]), tuple)
            self.assertIs(type(row[2]), tuple)
            self.assertEqual(list(row[1]), sorted(row[1]))
            self.assertLessEqual(set(row[1]), set(ALL_NEEDS))

    def test_by_the_name_of_the_parameter(self):
        self.assertEqual(effect(members=[D]), effect([D]))

    def test_deep_and_many(self):
        deep = "d/" * 124 + "d"
        rows = effect([put(deep), Link("e", deep)])
        self.assertEqual(len(rows), 126)
        self.assertEqual(rows[0], ("d", GROUND, MADE))
        self.assertEqual(rows[-2:], [(deep, PLACE, new(deep)), ("e", PLACE, new(deep))])
        many = [put(f"f{number}") for number in range(40)]
        self.assertEqual(len(effect(many)), 40)


if __name__ == "__main__":
    unittest.main()
