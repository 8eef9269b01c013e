"""Point [10] and the section "Houses"."""

import itertools
import unittest

from samples import ANY
from tarhouse.errors import NoHouse, NoPath
from tarhouse.houses import House
from tarhouse.members import Directory

DIRECTORY = ("directory", 493, 0)
FILE = ("file", b"\x01", 420, 7)
SYMLINK = ("symlink", "../x//", 511, 0)
TREE = [
    ("a", ("directory", 448, 9)),
    ("a-", SYMLINK),
    ("a/b", FILE),
    ("a/c", ("link", "a/b")),
    ("a/d", DIRECTORY),
    ("a/d/e", ("file", b"", 0, 8589934591)),
    ("b", ("link", "a/b")),
    ("c", ("symlink", "b" * 250, 4095, 1)),
    ("d", ("link", "a/d/e")),
]


class Case(unittest.TestCase):
    def refused(self, entries):
        for given in (entries, tuple(entries), entries[::-1]):
            with self.subTest(given=given):
                with self.assertRaises(NoHouse) as caught:
                    House.of(given)
                self.assertEqual(caught.exception.given, given)
                self.assertIs(type(caught.exception.given), type(given))

    def gives(self, entries, expected):
        for given in (entries, tuple(entries)):
            with self.subTest(given=given):
                self.assertEqual(House.of(given).entries(), expected)


class Entries(Case):
    def test_the_empty_house(self):
        for house in (House(), House.of([]), House.of(())):
            self.assertEqual(house.entries(), [])
            self.assertEqual(len(house), 0)
            self.assertEqual(house, House())

    def test_any_order(self):
        self.gives(TREE, TREE)
        self.gives(TREE[::-1], TREE)
        for shift in range(len(TREE)):
            self.gives(TREE[shift:] + TREE[:shift], TREE)
        for order in itertools.permutations(TREE[:1] + TREE[2:6]):
            self.gives(list(order), sorted(order))

    def test_each_kind_alone(self):
        for thing in (DIRECTORY, FILE, SYMLINK, ("directory", 0, 0), ("file", b"x" * 4096, 4095, 8589934591)):
            self.gives([("p", thing)], [("p", thing)])

    def test_ascending_by_character(self):
        paths = ["a", "a-b", "a.b", "a/b", "a0", "a_", "aa"]
        things = [("directory", 1, 1)] * len(paths)
        self.gives(list(zip(paths, things))[::-1], list(zip(paths, things)))

    def test_links_to_lesser_and_greater_paths(self):
        self.gives([("a", FILE), ("b", ("link", "a"))], [("a", FILE), ("b", ("link", "a"))])
        self.gives([("b", FILE), ("a", ("link", "b"))], [("a", FILE), ("b", ("link", "a"))])
        self.gives([("a", ("link", "b")), ("b", FILE)], [("a", FILE), ("b", ("link", "a"))])

    def test_more_paths_that_share_a_file(self):
        for first in "abc":
            entries = [(path, FILE if path == first else ("link", first)) for path in "cab"]
            self.gives(entries, [("a", FILE), ("b", ("link", "a")), ("c", ("link", "a"))])

    def test_two_files_that_are_the_same_but_not_shared(self):
        entries = [("a", FILE), ("b", FILE), ("c", ("link", "b"))]
        self.gives(entries, entries)
        entries = [("d", ("link", "b")), ("c", ("link", "e")), ("b", FILE), ("e", FILE), ("a", ("link", "b"))]
        self.gives(entries, [("a", FILE), ("b", ("link", "a")), ("c", FILE), ("d", ("link", "a")),
                             ("e", ("link", "c"))])

    def test_links_across_directories(self):
        entries = [("z", DIRECTORY), ("z/z", FILE), ("a", ("link", "z/z")), ("b", DIRECTORY), ("b/z", ("link", "z/z"))]
        self.gives(entries, [("a", FILE), ("b", DIRECTORY), ("b/z", ("link", "a")), ("z", DIRECTORY),
                             ("z/z", ("link", "a"))])

    def test_many_paths(self):
        entries = [(f"p{k}", ("symlink", f"p{k + 1}", 511, 0)) for k in range(5000)]
        self.assertEqual(House.of(entries[::-1]).entries(), sorted(entries))

    def test_deep_paths(self):
        entries = [("/".join("abcdefgh"[:many]), DIRECTORY) for many in range(1, 9)]
        self.gives(entries[::-1], entries)
        path = "a" * 250
        self.gives([(path, FILE)], [(path, FILE)])

    def test_by_name(self):
        self.assertEqual(House.of(entries=TREE), House.of(TREE))


class NoHouses(Case):
    def test_values_that_are_no_lists(self):
        things = [thing for thing in ANY if thing not in ([], ())]
        for thing in things + [House(), {"a": FILE}, {("a", FILE): 1}, "ab", b"ab", DIRECTORY]:
            with self.subTest(thing=thing):
                with self.assertRaises(NoHouse) as caught:
                    House.of(thing)
                self.assertEqual(caught.exception.given, thing)
                self.assertIs(type(caught.exception.given), type(thing))

    def test_the_error_has_a_copy(self):
        given = [["a", FILE]]
        with self.assertRaises(NoHouse) as caught:
            House.of(given)
        given[0].append(1)
        given.append(2)
        self.assertEqual(caught.exception.given, [["a", FILE]])

    def test_entries_that_are_no_pairs(self):
        for entry in ANY + [("a",), ("a", FILE, FILE), ["a", FILE], ("a", FILE, None), (FILE, "a"), "ab", FILE,
                            {"a": FILE}, {0: "a", 1: FILE}]:
            self.refused([entry])
            self.refused([("x", FILE), entry])

    def test_paths_that_are_none(self):
        for path in [thing for thing in ANY if thing not in ("a", "a/b")] + [
                "/", "/a", "a/", "a//b", ".", "..", "./a", "a/..", "A", "a b", "a" * 251, "a\n", b"a", ["a"], ("a",)]:
            for thing in (FILE, DIRECTORY, SYMLINK, ("link", "x")):
                self.refused([(path, thing), ("x", FILE), ("y", DIRECTORY)])

    def test_things_that_are_none(self):
        words = ["file", "directory", "symlink", "link", "sparse", "hardlink", "", "File", None, 0, b"file", ["file"]]
        for thing in ANY + [(word,) for word in words] + ["file", "directory", "link", {"file": 1}]:
            self.refused([("p", thing)])
        for word in words:
            for more in ((), (1,), (b"",), ("t",), (1, 2), (b"", 1), (b"", 1, 2, 3), ("t", 1, 2, 3), (1, 2, 3, 4)):
                if (word, len(more)) != ("directory", 2) or more[0] != 1:
                    self.refused([("p", (word, *more))])
            if word not in ("file", "symlink"):
                self.refused([("p", (word, b"", 1, 2))])
                self.refused([("p", (word, "t", 1, 2))])
            if word != "directory":
                self.refused([("p", (word, 1, 2))])
            if word != "link":
                self.refused([("p", (word, "q")), ("q", FILE)])

    def test_lists_in_place_of_tuples(self):
        for thing in (FILE, DIRECTORY, SYMLINK, ("link", "q")):
            self.assertEqual(len(House.of([("p", thing), ("q", FILE)])), 2)
            self.refused([("p", list(thing)), ("q", FILE)])
            self.refused([["p", thing], ("q", FILE)])

    def test_data(self):
        for data in [thing for thing in ANY if thing not in (b"", b"a")] + ["", "x", [1], (1,), bytes(4097)]:
            self.refused([("p", ("file", data, 420, 0))])

    def test_targets(self):
        for target in [thing for thing in ANY if thing not in ("a", "a/b")] + [
                "", "A", "a b", "t" * 251, b"t", ["t"], "././@LongLink"]:
            self.refused([("p", ("symlink", target, 511, 0))])
        for target in ("/", "..", "a//b", ".", "t" * 250):
            self.gives([("p", ("symlink", target, 511, 0))], [("p", ("symlink", target, 511, 0))])

    def test_modes_and_times(self):
        modes = [thing for thing in ANY if thing not in (0, 1) or isinstance(thing, bool)] + [4096, "0", b"1", [0]]
        times = [thing for thing in ANY if thing not in (0, 1) or isinstance(thing, bool)] + [8589934592, "0", [0]]
        for front in (("file", b""), ("directory",), ("symlink", "t")):
            for mode in modes:
                self.refused([("p", (*front, mode, 0))])
            for time in times:
                self.refused([("p", (*front, 0, time))])
            self.gives([("p", (*front, 4095, 8589934591))], [("p", (*front, 4095, 8589934591))])

    def test_a_path_twice(self):
        for thing in (FILE, DIRECTORY, SYMLINK, ("link", "q")):
            for other in (FILE, DIRECTORY, SYMLINK, ("link", "q")):
                self.refused([("p", thing), ("q", FILE), ("p", other)])
        self.refused(TREE + TREE[-1:])
        self.refused(TREE + TREE)

    def test_what_is_above_is_missing(self):
        for thing in (FILE, DIRECTORY, SYMLINK, ("link", "q")):
            self.refused([("p/a", thing), ("q", FILE)])
            self.refused([("p", DIRECTORY), ("p/a/b", thing), ("q", FILE)])
            self.refused([("p/a", DIRECTORY), ("p/a/b", thing), ("q", FILE)])

    def test_what_is_above_is_no_directory(self):
        for above in (FILE, SYMLINK, ("link", "q")):
            for thing in (FILE, DIRECTORY, SYMLINK, ("link", "q")):
                self.refused([("p", above), ("p/a", thing), ("q", FILE)])
                self.refused([("o", DIRECTORY), ("o/p", above), ("o/p/a", thing), ("q", FILE)])

    def test_links_to_what_is_no_file(self):
        for other in ("p", "d", "s", "l", "missing", "d/missing", "", "/", "f/", "./f", "A"):
            entries = [("p", ("link", other)), ("d", DIRECTORY), ("s", SYMLINK), ("l", ("link", "f")), ("f", FILE)]
            self.refused(entries)
        self.refused([("a", ("link", "b")), ("b", ("link", "a"))])
        self.refused([("a", ("link", "a"))])

    def test_links_to_values_that_are_no_paths(self):
        for other in [thing for thing in ANY if thing != "a"] + [FILE, ("link", "a"), ["a"], b"a"]:
            self.refused([("p", ("link", other)), ("a", FILE)])
        self.refused([("p", ("link", "a", 0)), ("a", FILE)])
        self.refused([("p", ("link", "a", 0, 0)), ("a", FILE)])


class Looking(Case):
    def setUp(self):
        self.house = House.of(TREE[::-1])

    def test_sharers(self):
        for path in ("a/b", "a/c", "b"):
            self.assertEqual(self.house.sharers(path), ["a/b", "a/c", "b"])
        for path in ("a/d/e", "d"):
            self.assertEqual(self.house.sharers(path), ["a/d/e", "d"])
        self.assertEqual(House.of([("f", FILE), ("g", FILE)]).sharers("g"), ["g"])

    def test_sharers_of_what_is_no_file(self):
        for path in ["a", "a-", "a/d", "c", "x", "a/x", "a/b/", "/a/b"] + ANY:
            if path not in ("a/b",):
                with self.subTest(path=path):
                    with self.assertRaises(NoPath) as caught:
                        self.house.sharers(path)
                    self.assertEqual(caught.exception.path, path)
                    self.assertIs(type(caught.exception.path), type(path))

    def test_thing_at(self):
        things = dict(TREE)
        for path, thing in TREE:
            expected = things[thing[1]] if thing[0] == "link" else thing
            self.assertEqual(self.house.thing_at(path), expected)
            self.assertIs(type(self.house.thing_at(path)), tuple)

    def test_thing_at_other_values(self):
        for path in ["x", "a/x", "a/b/", "/a/b", "a//b", "a/b/c", (), ("a",)] + ANY:
            if path not in ("a", "a/b"):
                with self.subTest(path=path):
                    with self.assertRaises(NoPath) as caught:
                        self.house.thing_at(path)
                    self.assertEqual(caught.exception.path, path)
                    self.assertIs(type(caught.exception.path), type(path))

    def test_has(self):
        for path, _ in TREE:
            self.assertIs(self.house.has(path), True)
        for path in ["x", "a/x", "a/b/", "/a", b"a", ["a"], {"a": 1}, Directory("a")] + ANY:
            if path not in ("a", "a/b"):
                with self.subTest(path=path):
                    self.assertIs(self.house.has(path), False)
                    self.assertIs(House().has(path), False)

    def test_the_number_of_paths(self):
        for many in range(4):
            self.assertEqual(len(House.of(TREE[:many])), many)
        self.assertEqual(len(self.house), len(TREE))

    def test_by_name(self):
        self.assertEqual(self.house.sharers(path="b"), ["a/b", "a/c", "b"])
        self.assertEqual(self.house.thing_at(path="b"), FILE)
        self.assertIs(self.house.has(path="b"), True)


class Equality(Case):
    def same(self, one, other):
        self.assertIs(one == other, True)
        self.assertIs(one != other, False)

    def different(self, one, other):
        with self.subTest(one=one, other=other):
            self.assertIs(one == other, False)
            self.assertIs(other == one, False)
            self.assertIs(one != other, True)

    def test_equal_houses(self):
        self.same(House.of(TREE), House.of(TREE[::-1]))
        self.same(House.of(TREE), House.of(tuple(TREE)))
        self.same(House(), House.of(()))
        self.same(House.of([("a", FILE), ("b", ("link", "a"))]), House.of([("b", FILE), ("a", ("link", "b"))]))

    def test_sharing_counts(self):
        self.different(House.of([("a", FILE), ("b", FILE)]), House.of([("a", FILE), ("b", ("link", "a"))]))
        one = House.of([("a", FILE), ("b", ("link", "a")), ("c", FILE)])
        self.different(one, House.of([("a", FILE), ("b", FILE), ("c", ("link", "a"))]))
        self.different(one, House.of([("a", FILE), ("b", FILE), ("c", ("link", "b"))]))
        self.different(one, House.of([("a", FILE), ("b", ("link", "a")), ("c", ("link", "a"))]))

    def test_things_and_paths_count(self):
        houses = [House.of(entries) for entries in (
            [], [("a", FILE)], [("b", FILE)], [("a", ("file", b"\x02", 420, 7))], [("a", ("file", b"\x01", 421, 7))],
            [("a", ("file", b"\x01", 420, 8))], [("a", DIRECTORY)], [("a", ("directory", 492, 0))],
            [("a", ("directory", 493, 1))], [("a", SYMLINK)], [("a", ("symlink", "x", 511, 0))],
            [("a", ("symlink", "../x//", 510, 0))], [("a", ("symlink", "../x//", 511, 1))],
            [("a", FILE), ("b", FILE)], [("a", DIRECTORY), ("a/b", FILE)],
        )]
        for one, other in itertools.combinations(houses, 2):
            self.different(one, other)

    def test_anything_else(self):
        for house in (House(), House.of(TREE)):
            for thing in ANY + [TREE, tuple(TREE), house.entries(), dict(TREE), House]:
                self.different(house, thing)

    def test_values_that_compare_by_themselves(self):
        class Same:
            def __eq__(self, other):
                return True

        self.assertIs(House() == Same(), False)


class Sharing(Case):
    def test_what_was_passed(self):
        given = list(TREE)
        house = House.of(given)
        given.clear()
        self.assertEqual(house.entries(), TREE)

    def test_what_is_passed_stays(self):
        given = TREE[::-1]
        House.of(given)
        self.assertEqual(given, TREE[::-1])

    def test_what_was_returned(self):
        house = House.of(TREE)
        house.entries().clear()
        house.sharers("b").append("x")
        self.assertEqual(house.entries(), TREE)
        self.assertEqual(house.sharers("b"), ["a/b", "a/c", "b"])
        self.assertIsNot(house.entries(), house.entries())
        self.assertEqual(house, House.of(TREE))

    def test_entries_are_lists_of_tuples(self):
        entries = House.of(TREE).entries()
        self.assertIs(type(entries), list)
        for entry in entries:
            self.assertIs(type(entry), tuple)
            self.assertIs(type(entry[1]), tuple)

    def test_two_houses(self):
        one, other = House(), House.of(TREE)
        self.assertEqual((len(one), len(other), len(House())), (0, len(TREE), 0))
        self.assertEqual(House.of(other.entries()), other)


if __name__ == "__main__":
    unittest.main()
