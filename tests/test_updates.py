"""Points [3], [15] and [16], and `fewest_blocks` and `least_update` of the section "Updates"."""

import random
import unittest

from model_updates import (
    N, any_kept, any_wanted, base_of, blocks_in, costs, fewest, is_right, is_steady, saved, searched, sharing,
)
from tarhouse.blobs import blob
from tarhouse.houses import House
from tarhouse.members import Directory, File, Link, Member, Sparse, Symlink
from tarhouse.unpacking import unpacked
from tarhouse.updates import fewest_blocks, least_update

A = File("a/b", blob([1, 2, 3]), time=7)
B = Link("c", "a/b")
D = Directory("a", mode=448)
MADE = ("directory", 493, 0)
LA, LB, LC, LD = N["a"], N["b"], N["c"], N["d"]


def paper(data=b"1", mode=420, time=0):
    return ("file", data, mode, time)


def put(path, data=b"1"):
    return File(path, data)


def house(*rows, **things):
    """A house of rows of shared paths and of things by their paths."""
    entries = list(things.items())
    for data, *paths in rows:
        entries.append((paths[0], ("file", data, 420, 0)))
        entries += [(path, ("link", paths[0])) for path in paths[1:]]
    for path in [entry[0] for entry in entries]:
        while "/" in path:
            path = path.rpartition("/")[0]
            if path not in dict(entries):
                entries.append((path, MADE))
    return House.of(entries)


def members_of(tree):
    """Members that leave a house."""
    found = []
    for path, thing in tree.entries():
        if thing[0] == "directory":
            found.append(Directory(path, mode=thing[1], time=thing[2]))
        elif thing[0] == "symlink":
            found.append(Symlink(path, thing[1], mode=thing[2], time=thing[3]))
        elif thing[0] == "file":
            found.append(File(path, thing[1], mode=thing[2], time=thing[3]))
        else:
            found.append(Link(path, thing[1]))
    return found


class Case(unittest.TestCase):
    def told(self, members, wanted, expected):
        """Check the fewest blocks, and the update."""
        given = list(members)
        self.assertEqual(fewest(members, wanted), expected)
        for passed in (members, tuple(members)):
            self.assertEqual(fewest_blocks(passed, wanted), expected)
            update = least_update(passed, wanted)
            self.assertIs(type(update), tuple)
            self.assertIs(type(update[0]), int)
            self.assertIs(type(update[1]), list)
            self.assertTrue(all(isinstance(member, Member) for member in update[1]))
            self.assertTrue(is_right(members, wanted, update))
            self.assertEqual(blocks_in(update[1]), min(number for number in expected if number is not None))
            self.assertEqual(expected[update[0]], blocks_in(update[1]))
        self.assertEqual(members, given)

    def checked(self, members, wanted, tries=False):
        """Check any members and house; maybe against all updates."""
        expected = fewest(members, wanted)
        self.told(members, wanted, expected)
        for many, number in enumerate(expected if tries else []):
            if number is not None:
                self.assertEqual(searched(base_of(members[:many], wanted), wanted), number)


class Costs(Case):
    def test_nothing(self):
        self.told([], House(), [0])
        self.told([D], House(), [0, None])

    def test_directories_that_are_missing(self):
        for name, blocks in (("d", 1), ("d" * 100, 1), ("d" * 101, 3), ("d/" * 124 + "e", 3)):
            tree = House.of([(name[:at], MADE) for at in range(1, len(name)) if name[at] == "/"] + [(name, MADE)])
            self.told([], tree, [blocks])
        self.told([], House.of([("d", ("directory", 448, 0))]), [1])
        self.told([], House.of([("d", ("directory", 493, 1))]), [1])

    def test_directories_that_are_made(self):
        self.told([], house((b"1", "d/f")), [2])
        self.told([], house((b"1", "d/f"), d=("directory", 448, 0)), [3])
        self.told([], house((b"1", "d/f"), d=("directory", 493, 1)), [3])
        self.told([], house((b"1", LD + "/f"), **{LD: ("directory", 448, 0)}), [7])
        self.told([], house((b"1", LD + "/f")), [4])
        self.told([], House.of([("d", MADE), ("d/e", MADE)]), [1])
        self.told([], House.of([("d", MADE), ("d/e", MADE), ("d-", MADE)]), [2])

    def test_directories_of_the_base(self):
        self.told([Directory("d")], House.of([("d", MADE)]), [1, 0])
        self.told([Directory("d", mode=448)], House.of([("d", MADE)]), [1, 1])
        self.told([Directory("d", time=9)], House.of([("d", MADE)]), [1, 1])
        self.told([Directory(LD, time=9)], House.of([(LD, MADE)]), [3, 3])
        self.told([Directory("d")], House.of([("d", ("directory", 493, 1))]), [1, 1])
        self.told([Directory("d", time=9)], house((b"", "d/f")), [1, 2])
        self.told([put("d/f"), put("d/f")], house((b"1", "d/f")), [2, 0, 0])

    def test_symlinks(self):
        for name in ("s", LA):
            for target in ("t", "/..", LB):
                wanted = House.of([(name, ("symlink", target, 511, 0))])
                blocks = 1 + 2 * (name == LA) + 2 * (target == LB)
                self.told([], wanted, [blocks])
                self.told([Symlink(name, target)], wanted, [blocks, 0])
                self.told([Symlink(name, target, mode=1)], wanted, [blocks, blocks])
                self.told([Symlink(name, target, time=1)], wanted, [blocks, blocks])
                self.told([Symlink(name, "u")], wanted, [blocks, blocks])
                self.told([put(name)], wanted, [blocks, blocks])

    def test_files_alone(self):
        for size, blocks in ((0, 0), (1, 1), (511, 1), (512, 1), (513, 2), (4096, 8)):
            data = b"x" * size
            self.told([], house((data, "f")), [1 + blocks])
            self.told([], house((data, LA)), [3 + blocks])
            self.told([put("f", data)], house((data, "f")), [1 + blocks, 0])
            self.told([put("f", data + b"y")] if size < 4096 else [put("f")], house((data, "f")), [1 + blocks] * 2)
        self.told([File("f", b"1", mode=1)], house((b"1", "f")), [2, 2])
        self.told([File("f", b"1", time=1)], house((b"1", "f")), [2, 2])
        self.told([Symlink("f", "t")], house((b"1", "f")), [2, 2])

    def test_classes(self):
        for paths, blocks in ((["a", "b"], 3), (["a", LB], 5), ([LA, "b"], 5), ([LA, LB], 9), ([LA, LB, LC], 14),
                              ([LA, LB, LC, "a"], 11), (["a", "b", "c", "d", "e"], 6)):
            self.told([], house((b"1", *paths)), [blocks])
            self.told([], house((b"", *paths)), [blocks - 1])
        self.told([], house((b"1", "a", "b"), (b"1", "c")), [5])

    def test_sparse_files_are_never_added(self):
        zeros = bytes(4096)
        self.told([], house((zeros, "z")), [9])
        self.told([Sparse("z", 4096)], house((zeros, "z")), [9, 0])
        self.told([Sparse("z", 4096)], house((zeros, "y", "z")), [10, 1])


class Savings(Case):
    def test_the_same_paths(self):
        for paths in (["a"], [LA], ["a", "b"], [LA, LB], [LA, "b", LC]):
            wanted = house((b"1", *paths))
            members = [put(paths[0])] + [Link(path, paths[0]) for path in paths[1:]]
            self.told(members, wanted, [*fewest([], wanted), *fewest(members, wanted)[1:-1], 0])

    def test_further_paths(self):
        self.told([put("a")], house((b"1", "a", "b")), [3, 1])
        self.told([put("a")], house((b"1", "a", LB)), [5, 3])
        self.told([put("a")], house((b"1", "a", "b", "c", "d", "e")), [6, 4])

    def test_long_targets(self):
        # The first link has the long target; the others have the short one, if there is one.
        self.told([put(LA)], house((b"1", LA, "b")), [5, 3])
        self.told([put(LA)], house((b"1", LA, "b", "c")), [6, 4])
        self.told([put(LA)], house((b"1", LA, "b", LC)), [8, 6])
        self.told([put(LA)], house((b"1", LA, LB)), [9, 5])
        self.told([put(LA)], house((b"1", LA, LB, LC)), [14, 10])
        self.told([put(LA), Link("b", LA)], house((b"1", LA, "b", LC)), [8, 6, 3])

    def test_fewer_paths(self):
        # What stands at the other places is replaced.
        self.told([put("a"), Link("b", "a")], house((b"1", "a"), (b"2", "b")), [4, 2, 2])
        self.told([put("a"), Link("b", "a")], house((b"1", "a"), (b"1", "b")), [4, 2, 2])
        self.told([put("a"), Link(LB, "a")], house((b"1", LB, "c"), (b"2", "a")), [7, 7, 5])

    def test_a_target_that_is_replaced(self):
        # A link to `a` would be shorter, but `a` is put again.
        self.told([put(LA), Link("a", LA)], house((b"1", LA, LB), (b"2", "a")), [11, 7, 7])
        self.told([put("a"), Link("b", "a")], house((b"1", "c"), (b"2", "a", "b")), [5, 5, 5])

    def test_no_path_in_both(self):
        self.told([put("a")], house((b"1", "b"), (b"2", "a")), [4, 4])

    def test_another_content(self):
        self.told([put("a", b"2")], house((b"1", "a", "b")), [3, 3])
        self.told([File("a", b"1", mode=1)], house((b"1", "a", "b")), [3, 3])
        self.told([File("a", b"1", time=1)], house((b"1", "a", "b")), [3, 3])

    def test_one_file_for_several_classes(self):
        # Only one of them takes it over.
        members = [put("a"), Link("b", "a"), Link("c", "a")]
        self.told(members, house((b"1", "a"), (b"1", "b"), (b"1", "c")), [6, 4, 4, 4])
        self.told(members, house((b"1", "a"), (b"1", "b", "c")), [5, 3, 3, 2])

    def test_several_files_for_one_class(self):
        self.told([put("a"), put("b")], house((b"1", "a", "b")), [3, 1, 1])
        self.told([put(LA), put("b")], house((b"1", LA, "b")), [5, 3, 3])
        self.told([put(LA), put("b"), Link("c", "b")], house((b"1", LA, "b", "c")), [6, 4, 4, 3])

    def test_the_best_choice_is_not_the_nearest(self):
        # The class of `a`, `b`, `c` saves more by the file at `a`; but the other class has no other one.
        members = [put("a"), Link("b", "a"), Link("d", "a"), put("c")]
        wanted = house((b"1", "a", "b", "c"), (b"1", "d"))
        base = unpacked(House(), members)
        self.assertEqual([saved(base, wanted, "a", other) for other in "ac"], [3, 2])
        self.assertEqual([saved(base, wanted, "d", other) for other in "ac"], [2, None])
        self.told(members, wanted, [6, 4, 3, 3, 2])
        self.checked(members, wanted, True)

    def test_greedy_choices_lose(self):
        source = random.Random(31)
        lost = 0
        for _ in range(400):
            paths = source.sample(["a", "b", "c", "d", LA, LB, LC], source.randrange(3, 8))
            trees = []
            for _ in range(2):
                rows = []
                for path in source.sample(paths, len(paths)):
                    if rows and source.random() < 0.55:
                        source.choice(rows).append(path)
                    else:
                        rows.append([b"1", path])
                trees.append(house(*rows))
            base, wanted = trees
            members = members_of(base)
            self.checked(members, wanted)
            left = {(one, other): saved(base, wanted, one, other) or 0 for one in sharing(wanted) for other in sharing(base)}
            total = 0
            while left:
                best = max(left, key=lambda pair: left[pair])
                total += left[best]
                left = {pair: left[pair] for pair in left if pair[0] != best[0] and pair[1] != best[1]}
            lost += costs(base, wanted) - total > fewest_blocks(members, wanted)[-1]
        self.assertGreater(lost, 3)


class WithoutUpdate(Case):
    WANTED = house((b"1", "a"), (b"2", "d/f"))

    def test_refused(self):
        for member in (Link("a", "x"), File("/", b""), File("a/b", b""), Directory("a"), Link("a", "d/f/")):
            self.told([put("a"), member, put("a")], self.WANTED, [4, 2, None, None])

    def test_missing(self):
        for member in (put("x"), put("d/g"), Directory("e"), Symlink("s", "a"), Link("b", "a"), Sparse("x", 0)):
            self.told([put("a"), member], self.WANTED, [4, 2, None])
            self.told([put("a"), member, put("a")], self.WANTED, [4, 2, None, None])

    def test_a_directory_in_only_one(self):
        self.told([Directory("a")], self.WANTED, [4, None])
        self.told([put("d")], self.WANTED, [4, None])
        self.told([Symlink("d", "a")], self.WANTED, [4, None])
        self.told([put("a"), Link("d", "a")], self.WANTED, [4, 2, None])

    def test_what_stands_there_is_replaced_later(self):
        # A path of the base that is a file in one and a symlink in the other does not matter.
        self.told([Symlink("a", "t"), put("a")], self.WANTED, [4, 4, 2])
        self.told([put("s")], House.of([("s", ("symlink", "t", 511, 0))]), [1, 1])


class Updates(Case):
    def test_the_document(self):
        wanted = House.of([("a", MADE), ("a/b", ("file", blob([1, 2, 3]), 420, 7)), ("c", ("link", "a/b"))])
        self.told([A], wanted, [3, 1])
        self.assertEqual(least_update([A], wanted)[0], 1)
        self.told([A, D, File("x", blob([]))], wanted, [3, 1, 2, None])
        self.told([A, B], wanted, [3, 1, 0])
        self.assertEqual(least_update([A, B], wanted), (2, []))

    def test_the_best_is_not_to_keep_most(self):
        self.told([put("a"), put("a", b"2"), D], house((b"1", "a")), [2, 0, 2, None])
        self.assertEqual(least_update([put("a"), put("a", b"2")], house((b"1", "a"))), (1, []))

    def test_members_that_are_added(self):
        self.assertEqual(least_update([], house((b"1", "a"))), (0, [put("a")]))
        self.assertEqual(least_update([put("a")], house((b"1", "a", "b"))), (1, [Link("b", "a")]))
        self.assertEqual(least_update([], House.of([("d", ("directory", 5, 6))])), (0, [Directory("d", mode=5, time=6)]))
        wanted = House.of([("s", ("symlink", "t", 5, 6))])
        self.assertEqual(least_update([], wanted), (0, [Symlink("s", "t", mode=5, time=6)]))
        wanted = House.of([("f", paper(b"", 5, 6))])
        self.assertEqual(least_update([], wanted), (0, [File("f", b"", mode=5, time=6)]))

    def test_directories_above_what_is_added(self):
        wanted = House.of([
            ("a", ("directory", 1, 2)), ("a/b", MADE), ("a/b/c", ("directory", 3, 4)), ("a/b/c/d", paper()),
            ("a/e", ("link", "a/b/c/d")), ("f", MADE),
        ])
        self.told([], wanted, [6])
        self.told([Directory("a/b/c")], wanted, [6, 6])

    def test_the_limits(self):
        paths = [f"p{number}" for number in range(10)] + [LA, LB]
        wanted = house(*[(b"1", path) for path in paths])
        members = [put(path) for path in paths[:8]]
        self.told(members, wanted, [28 - 2 * many for many in range(9)])
        more = [put(path) for path in paths] + [Link(paths[0], paths[1])]
        self.assertEqual(fewest_blocks(more, wanted)[-3:], [4, 0, 2])

    def test_values(self):
        wanted = house((b"1", "a", "b"))
        self.assertEqual(fewest_blocks(house=wanted, members=[put("a")]), [3, 1])
        self.assertEqual(least_update(house=wanted, members=[put("a")]), (1, [Link("b", "a")]))
        first = fewest_blocks([], wanted)
        first.clear()
        self.assertEqual(fewest_blocks([], wanted), [3])
        least_update([], wanted)[1].clear()
        self.assertEqual(len(least_update([], wanted)[1]), 2)
        self.assertEqual(wanted, house((b"1", "a", "b")))

    def test_what_steady_means(self):
        self.assertTrue(is_steady([put("a"), Link("b", "a"), Link("c", "a"), put("d")]))
        self.assertFalse(is_steady([put("a"), Link("b", "a"), put("a")]))
        self.assertFalse(is_steady([Link("a", "a"), Link("a", "b")]))


class Searches(Case):
    POOL = ["a", "b", "c", LD, N["e"], "f", "f/a", "f/" + LB, "g"]

    def test_by_the_words_of_the_document(self):
        source = random.Random(41)
        for _ in range(400):
            wanted = any_wanted(source, self.POOL)
            self.checked(any_kept(source, wanted, 8), wanted)

    def test_all_updates_of_small_houses(self):
        source = random.Random(42)
        for _ in range(150):
            pool = source.choice([["a", "b", LC, "f", "f/a"], ["a", LB, "f", "f/" + N["g"]], ["a", "f", "f/g", "f/g/h"]])
            wanted = any_wanted(source, pool)
            if len(wanted) < 5:
                self.checked(any_kept(source, wanted, 4), wanted, True)

    def test_all_updates_with_files_that_share(self):
        source = random.Random(43)
        for _ in range(60):
            paths = source.sample(["a", "b", LA, LB, LC], source.randrange(2, 5))
            rows, data = [], source.choice([b"", b"1", b"2" * 513])
            for path in paths:
                if rows and source.random() < 0.6:
                    source.choice(rows).append(path)
                else:
                    rows.append([data, path])
            wanted = house(*rows)
            first, *more = source.sample(paths, len(paths))
            members = [put(first, data)]
            members += [source.choice([put(path, data), Link(path, first)]) for path in more[:source.randrange(3)]]
            self.checked(members, wanted, True)


if __name__ == "__main__":
    unittest.main()
