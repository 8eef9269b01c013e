"""Points [3] and [12], and `alike` and `parting_house` of the section "Effects"."""

import random
import unittest

from all_houses import all_houses, is_parting, met
from model_houses import any_members
from tarhouse.blobs import blob
from tarhouse.comparing import alike, parting_house
from tarhouse.effects import effect
from tarhouse.houses import House
from tarhouse.members import Directory, File, Link, Sparse, Symlink

A = File("a/b", blob([1, 2, 3]), time=7)
B = Link("c", "a/b")
D = Directory("a", mode=448)
KINDS = {
    "directories": (("directory", 493, 0), ("directory", 5, 5)), "symlinks": (("symlink", "x", 5, 5),),
    "files": (("file", b"1", 420, 0), ("file", b"", 5, 5)),
}


def put(path, data=b"1"):
    return File(path, data)


class Case(unittest.TestCase):
    def alike(self, one, other):
        for first, second in ((one, other), (other, one), (tuple(one), list(other)), (list(other), tuple(one))):
            self.assertIs(alike(first, second), True)
            self.assertIsNone(parting_house(first, second))
        self.assertEqual(effect(one), effect(other))

    def parted(self, one, other, many):
        """Check lists that are not alike, which a house with this many paths shows."""
        self.assertNotEqual(effect(one), effect(other))
        for first, second in ((one, other), (other, one), (tuple(one), list(other)), (list(other), tuple(one))):
            self.assertIs(alike(first, second), False)
            house = parting_house(first, second)
            self.assertIsInstance(house, House)
            self.assertTrue(is_parting(house, one, other), house.entries())
            self.assertEqual(len(house), many, house.entries())

    def searched(self, one, other, extra=(), **kinds):
        """Check two lists against all houses over their paths and these."""
        sizes = [
            len(house) for house in all_houses(sorted({*met(one + other), *extra}), **kinds)
            if is_parting(house, one, other)
        ]
        if sizes:
            self.parted(one, other, min(sizes))
        else:
            self.alike(one, other)


class Alike(Case):
    def test_a_list_with_itself(self):
        for members in ([], [A], [A, B, D], [Link("a", "b")], [Directory("x/y")], [put("/")]):
            self.alike(members, list(members))

    def test_what_is_never_unpacked(self):
        nevers = [[put("/")], [A, put("a")], [D, put("a")], [Link("a/b", "a")], [put("a"), Directory("a")]]
        for one in nevers:
            for other in nevers:
                self.alike(one, other)

    def test_an_order_that_does_not_matter(self):
        self.alike([put("a"), put("b")], [put("b"), put("a")])
        self.alike([D, A], [A, D])
        self.alike([Link("a", "b"), Symlink("c", "t")], [Symlink("c", "t"), Link("a", "b")])
        self.alike([put("a"), Link("b", "a")], [put("b"), Link("a", "b")])
        self.alike([put("a"), Link("b", "a"), Link("c", "a")], [put("c"), Link("a", "c"), Link("b", "a")])

    def test_what_is_replaced_later(self):
        self.alike([A, A], [A])
        self.alike([put("a", b"2"), put("a")], [put("a")])
        self.alike([Symlink("a", "t"), put("a")], [put("a")])
        self.alike([Directory("a", mode=1), D], [D])
        self.alike([A, Directory("a", mode=1), D], [D, A])
        self.alike([put("b"), Link("a", "b"), put("a"), Link("b", "a")], [put("a"), Link("b", "a")])

    def test_sparse_files(self):
        self.alike([Sparse("a", 3, (1, b"x"))], [put("a", b"\x00x\x00")])
        self.alike([Sparse("a", 4, (0, b"x"), (3, b"y"))], [Sparse("a", 4, (0, b"x\x00\x00y"))])

    def test_links_to_their_own_path(self):
        self.alike([put("a"), Link("a", "a")], [put("a")])
        self.alike([Link("a", "a"), Link("b", "a")], [Link("b", "a")])
        self.alike([Link("a", "b"), Link("b", "b")], [Link("a", "b")])

    def test_the_mode_and_time_of_a_link(self):
        self.alike([Link("a", "b", mode=1, time=2)], [Link("a", "b")])

    def test_files_that_come_back(self):
        self.alike([Link("b", "a"), put("a"), Link("a", "b")], [Link("b", "a")])
        swap = [Link("t", "a"), Link("a", "b"), Link("b", "t")]
        self.alike(swap * 2 + [put("t")], [Link("a", "a"), Link("b", "b"), put("t")])

    def test_what_is_needed_otherwise(self):
        self.alike([Link("c", "a/b"), Link("c", "a/b")], [B])
        self.alike([Link("a/c", "a/b")], [Link("a/b", "a/b"), Link("a/c", "a/b")])


class Parted(Case):
    def test_one_thing(self):
        self.parted([put("a")], [put("a", b"2")], 0)
        self.parted([put("a")], [File("a", b"1", mode=1)], 0)
        self.parted([put("a")], [File("a", b"1", time=1)], 0)
        self.parted([put("a")], [put("b")], 0)
        self.parted([put("a")], [Symlink("a", "t")], 0)
        self.parted([put("a")], [Directory("a")], 0)
        self.parted([Symlink("a", "t")], [Symlink("a", "u")], 0)
        self.parted([Symlink("a", "t")], [Symlink("a", "t", mode=1)], 0)
        self.parted([Directory("a")], [D], 0)
        self.parted([Directory("a")], [], 0)
        self.parted([put("a"), put("b")], [put("a"), Link("b", "a")], 0)
        self.parted([put("a/b")], [Directory("a")], 0)
        self.parted([put("a")], [put("a/b")], 0)

    def test_what_a_list_needs(self):
        self.parted([Link("a", "b")], [put("b"), Link("a", "b")], 0)
        self.parted([Link("a", "b")], [Link("a", "c")], 1)
        self.parted([Link("a", "a")], [], 0)
        self.parted([Link("a", "a")], [Link("a", "a"), Link("b", "b")], 1)
        self.parted([Link("a", "b/c/d")], [Link("a", "b/c/d"), Link("b/c/e", "b/c/e")], 3)
        self.parted([Link("a", "b")], [Link("a", "b"), put("a")], 1)
        self.parted([B], [A, B], 0)

    def test_which_file_is_moved(self):
        both = [Link("a", "a"), Link("b", "b")]
        self.parted(both + [Link("c", "a")], both + [Link("c", "b")], 2)
        self.parted(both + [Link("c", "a"), Link("a", "b")], both + [Link("c", "a"), Link("b", "c"), Link("a", "b")], 2)

    def test_files_that_change_places(self):
        # Only two unequal files show it.
        swap = [Link("t", "a"), Link("a", "b"), Link("b", "t")]
        self.parted(swap + [put("t")], [Link("a", "a"), Link("b", "b"), put("t")], 2)
        self.parted(swap, [Link("t", "a"), Link("b", "b")], 2)

    def test_whose_file_is_shared(self):
        self.parted([put("a"), Link("b", "a"), put("a")], [put("a"), Link("b", "a")], 0)
        front = [put("a"), put("b")]
        self.parted(front + [Link("c", "a")], front + [Link("c", "b")], 0)
        self.parted(front + [Link("c", "a")], front + [put("c")], 0)

    def test_made_or_set_as_made(self):
        # Only a directory of another mode or time shows that it was set.
        self.parted([put("a/b")], [put("a/b"), Directory("a")], 1)
        self.parted([put("a/b/c")], [put("a/b/c"), Directory("a/b")], 2)
        self.parted([put("a/b/c")], [put("a/b/c"), Directory("a/b"), Directory("a")], 1)
        self.parted([put("a/b/c"), Directory("a")], [put("a/b/c"), Directory("a/b"), Directory("a")], 2)
        self.parted([put("a/b")], [put("a/b"), D], 0)
        self.parted([put("a/b/c"), Link("x", "y")], [put("a/b/c"), Link("x", "y"), Directory("a/b")], 3)

    def test_directories_of_before(self):
        self.parted([Link("c", "a/b")], [Link("c", "a/b"), Directory("a")], 2)
        self.parted([Link("c", "a/b"), Directory("a")], [Link("c", "a/b"), D], 2)
        self.parted([Link("c", "a/b/d")], [Link("c", "a/b/d"), Directory("a/b")], 3)
        self.parted([Link("c", "a/b/d")], [Link("c", "a/b/d"), Directory("a/b", time=1)], 3)
        self.parted([Link("c", "a/b/d")], [Link("c", "a/b/d"), Directory("a/b", time=2)], 3)

    def test_with_a_file_that_both_lists_need(self):
        self.parted([Directory("a"), Link("b", "b")], [Directory("a/c"), Link("b", "b")], 1)
        self.parted([Link("a", "b"), Link("c", "c")], [Link("a", "b"), Link("c", "b")], 1)

    def test_never_unpacked(self):
        self.parted([put("/")], [], 0)
        self.parted([put("/")], [put("a")], 0)
        self.parted([put("/")], [Link("a", "b/c/d")], 3)
        self.parted([A, put("a")], [Link("a", "b"), Link("x", "y/z"), put("b")], 3)

    def test_the_document(self):
        self.parted([Directory("x")], [], 0)
        self.parted([B], [A, B], 0)
        self.alike([A, A], [A])


class Searches(Case):
    def test_any_pairs(self):
        source = random.Random(21)
        for names in (("a", "b", "c"), ("a", "a/b", "c"), ("a/b", "a"), ("a/a", "b")):
            for _ in range(60):
                one = any_members(source, 3, names, names)
                self.searched(one, any_members(source, 3, names, names), **KINDS)

    def test_pairs_that_are_near(self):
        source = random.Random(22)
        for names, extra in ((("a", "b"), ("z",)), (("a", "a/b"), ()), (("a", "b", "c"), ()), (("a/b", "a/c"), ("a",))):
            for _ in range(80):
                one = any_members(source, 4, names, names)
                other = list(one)
                for _ in range(source.randrange(1, 3)):
                    other[source.randrange(len(other)):source.randrange(len(other) + 1)] = source.choice(
                        [[], any_members(source, 1, names, names), other[::-1]])
                    other = other or [put("a")]
                self.searched(one, other[:6], extra, **KINDS)

    def test_three_levels(self):
        source = random.Random(23)
        names = ("a", "a/b", "a/b/c", "d")
        things = {"directories": (("directory", 5, 5),), "symlinks": (("symlink", "x", 5, 5),),
                  "files": (("file", b"", 5, 5), ("file", b"1", 5, 5))}
        for _ in range(120):
            one = any_members(source, 3, names, names)
            other = one + any_members(source, 1, names, names)
            self.searched(one, other, **things)

    def test_equal_effects(self):
        source = random.Random(24)
        names = ("a", "b", "a/b")
        lists = [any_members(source, 3, names, names) for _ in range(40)]
        for one in lists:
            for other in lists:
                house = parting_house(one, other)
                self.assertEqual(effect(one) == effect(other), house is None)
                self.assertEqual(alike(one, other), house is None)
                if house is not None:
                    self.assertTrue(is_parting(house, one, other))


class Values(Case):
    def test_nothing_that_is_passed_changes(self):
        one, other = [A, B], [A, D]
        alike(one, other)
        parting_house(one, other)
        self.assertEqual((one, other), ([A, B], [A, D]))

    def test_by_the_names_of_the_parameters(self):
        self.assertIs(alike(other=[A], one=[A, A]), True)
        self.assertEqual(len(parting_house(other=[], one=[Link("a", "b/c")])), 0)

    def test_houses_are_new(self):
        self.assertIsNot(parting_house([A], []), parting_house([A], []))

    def test_times_that_members_have(self):
        # What stands in the house is nothing that a member puts there.
        for time in range(5):
            one = [Link("b", "a")] + [File("c", b"", time=time), File("a", b"", time=time)]
            other = [Link("b", "a")] + [File("c", b"", time=time), Link("a", "a")]
            self.parted(one, other, 1)

    def test_deep_paths(self):
        deep = "d/" * 124 + "d"
        self.parted([put(deep)], [put(deep), Directory(deep[:-2])], 124)
        self.parted([Link("a", deep)], [Link("a", "b")], 1)
        self.parted([Link("a", deep)], [put("/")], 125)


if __name__ == "__main__":
    unittest.main()
