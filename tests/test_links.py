"""Point [13] and the section "Symlinks"."""

import random
import unittest

from model_houses import PATHS, TARGETS, any_house, any_members, grown, is_on_ring, left, resolution
from samples import ANY
from tarhouse.blobs import blob
from tarhouse.errors import NoName
from tarhouse.houses import House
from tarhouse.links import dangers, resolved, rings
from tarhouse.members import Directory, File, Link, Sparse, Symlink, is_name

MADE = ("directory", 493, 0)
FILE = ("file", b"x", 1, 1)
MISSING, OUT, RING = ("missing",), ("out",), ("ring",)


def arrow(target):
    return ("symlink", target, 511, 0)


def house(**things):
    """A house of things by their paths, `_` standing for a slash; a string is a symlink's target."""
    rows = things.items()
    return House.of([(path.replace("_", "/"), arrow(row) if isinstance(row, str) else row) for path, row in rows])


class Walks(unittest.TestCase):
    def check(self, tree, expected):
        for name, result in expected.items():
            with self.subTest(name=name):
                told = ("path", result) if isinstance(result, str) else result
                self.assertEqual(resolved(tree, name), told)
                self.assertIs(type(resolved(tree, name)), tuple)

    def test_without_symlinks(self):
        tree = house(a=MADE, a_b=MADE, a_b_c=FILE, f=FILE)
        self.check(tree, {"a": "a", "a/b": "a/b", "a/b/c": "a/b/c", "f": "f", "x": MISSING, "a/x": MISSING,
                          "a/b/c/d": MISSING, "a/x/b": MISSING, "b": MISSING})

    def test_the_root(self):
        for tree in (House(), house(a=MADE, a_b=MADE)):
            self.check(tree, {".": "", "./": "", "./.": "", ".//.": "", "..": OUT, "./..": OUT, "../a": OUT,
                              "/": OUT, "//": OUT, "/a": OUT, "/..": OUT, "x": MISSING, "x/..": MISSING})

    def test_empty_parts_and_dots(self):
        tree = house(a=MADE, a_b=MADE, a_b_c=FILE)
        self.check(tree, {"a/": "a", "a//": "a", "a/.": "a", "a/./.": "a", "a//b": "a/b", "a/./b/": "a/b",
                          "./a/b": "a/b", ".//a": "a", "a/b//./c": "a/b/c"})

    def test_two_dots(self):
        tree = house(a=MADE, a_b=MADE, a_b_c=FILE, f=FILE)
        self.check(tree, {"a/..": "", "a/b/..": "a", "a/b/../..": "", "a/b/../../..": OUT, "a/../..": OUT,
                          "a/../../a": OUT, "a/../f": "f", "a/b/../../a/b/c": "a/b/c", "a/../a/../a": "a",
                          "a/../x": MISSING, "a/...": MISSING, "a/..a": MISSING})

    def test_files_with_parts_behind(self):
        tree = house(a=MADE, a_f=FILE, f=FILE, s="f", t="a/f", u="f/.", v="a/f/")
        self.check(tree, {"f/": MISSING, "f/.": MISSING, "f/..": MISSING, "f//": MISSING, "f/x": MISSING,
                          "a/f/": MISSING, "a/f/../f": MISSING, "f/../a": MISSING, "s": "f", "s/": MISSING,
                          "s/.": MISSING, "s/..": MISSING, "t": "a/f", "t/": MISSING, "t/..": MISSING, "u": MISSING,
                          "v": MISSING, "u/..": MISSING, "./f": "f", "a/../f": "f"})

    def test_symlinks(self):
        tree = house(a=MADE, a_b=MADE, a_s="b", a_t="../c", a_u="..", c=MADE, c_v="../a/s", f=FILE, g="f", h="a/../g")
        self.check(tree, {"a/s": "a/b", "a/s/": "a/b", "a/s/..": "a", "a/t": "c", "a/t/..": "", "a/u": "", "a/u/c": "c",
                          "c/v": "a/b", "c/v/..": "a", "a/t/v": "a/b", "a/u/a/u/a/s": "a/b", "g": "f", "h": "f",
                          "a/u/..": OUT, "a/t/../..": OUT, "a/s/../../g": "f", "a/s/x": MISSING, "a/t/v/x": MISSING})

    def test_symlinks_are_walked_from_where_they_stand(self):
        tree = house(a=MADE, a_s="x", a_x=MADE, b="a/s", x=FILE)
        self.check(tree, {"a/s": "a/x", "b": "a/x", "x": "x"})

    def test_symlinks_that_lead_out(self):
        tree = house(a=MADE, a_s="../..", a_t="/a", s="..", t="/", u="a/s", v="./t/x")
        names = ("a/s", "a/t", "s", "t", "u", "v", "s/x", "t/..", "u/a", "a/s/a", "v/y")
        self.check(tree, {name: OUT for name in names})

    def test_what_comes_before_the_end_of_a_walk(self):
        tree = house(m="x", o="/", r="r", f=FILE, d=MADE)
        self.check(tree, {"x/r": MISSING, "m/r": MISSING, "f/r": MISSING, "o/r": OUT, "../r": OUT, "d/../../r": OUT,
                          "r/x": RING, "r/../..": RING, "r/../o": RING, "d/../r/x": RING, "m/..": MISSING})

    def test_a_symlink_twice_in_a_walk(self):
        tree = house(a=MADE, a_u="..", s="a")
        self.check(tree, {"s/u/s/u/s": "a", "s/u/s/u/s/u": ""})
        tree = house(a=MADE, b="a/../a", c="b/../b/../b")
        self.check(tree, {"c": "a", "b": "a"})

    def test_long_targets(self):
        tree = house(a=MADE, s="a/" * 125, t="./" * 124 + "s", u="a/" + "../a/" * 49)
        self.check(tree, {"s": MISSING, "t": MISSING, "u": "a", "a/" * 125: MISSING, "./" * 124 + "a/": "a"})

    def test_no_names(self):
        for thing in [thing for thing in ANY if thing not in ("a", "a/b")] + ["", "A", "a b", "a" * 251, b"a", ["a"]]:
            with self.subTest(thing=thing):
                with self.assertRaises(NoName) as caught:
                    resolved(House(), thing)
                self.assertEqual(caught.exception.name, thing)
                self.assertIs(type(caught.exception.name), type(thing))

    def test_by_name(self):
        self.assertEqual(resolved(name="a", house=house(a=MADE)), ("path", "a"))


class Rings(unittest.TestCase):
    def check(self, tree, on, into=()):
        self.assertEqual(rings(tree), sorted(on))
        self.assertIs(type(rings(tree)), list)
        for path, thing in tree.entries():
            with self.subTest(path=path):
                if thing[0] == "symlink":
                    self.assertEqual(resolved(tree, path) == RING, path in on or path in into)

    def test_none(self):
        self.check(House(), [])
        self.check(house(a=MADE, s="a", t="s", u="x", v="/", w="w2", w2="t"), [])

    def test_by_its_own_target(self):
        for target in ("s", "./s", "s/x", "d/../s", "s/..", "s//"):
            self.check(house(d=MADE, s=target), ["s"])
        self.check(house(d=MADE, d_s="s"), ["d/s"])
        self.check(house(d=MADE, d_s="../d/s"), ["d/s"])

    def test_by_a_part_in_the_middle(self):
        self.check(house(d=MADE, s="d/../s/d"), ["s"])
        self.check(house(d=MADE, d_t="../s", s="d/t/d"), ["d/t", "s"])
        self.check(house(a="b/c", b="a/c"), ["a", "b"])

    def test_several_symlinks(self):
        self.check(house(a="b", b="c", c="a"), ["a", "b", "c"])
        self.check(house(c="b", b="a", a="c"), ["a", "b", "c"])

    def test_what_leads_into_a_ring(self):
        self.check(house(a="b", b="c", c="b", d="a", e="d/x", z="c"), ["b", "c"], ["a", "d", "e", "z"])
        self.check(house(z="y", y="x", x="x", w="y"), ["x"], ["w", "y", "z"])
        self.check(house(d=MADE, d_s="../r", r="r"), ["r"], ["d/s"])

    def test_what_ends_before_a_ring(self):
        self.check(house(r="r", m="x/r", o="../r", f=FILE, g="f/r", s="m/r", t="o/r"), ["r"])
        # This one would need itself if its walk did not end before.
        self.check(house(s="x/s", t="/t", f=FILE, u="f/../u", v="../v"), [])

    def test_what_a_ring_needs_besides(self):
        self.check(house(d=MADE, s="d", a="s/../b", b="s/../a"), ["a", "b"])

    def test_two_rings(self):
        self.check(house(a="b", b="a", c="d", d="c", e="a", f="c"), ["a", "b", "c", "d"], ["e", "f"])
        # What comes second in a walk is not needed if the first one is on a ring.
        self.check(house(a="a", b="b", c="a/b", d="b/a"), ["a", "b"], ["c", "d"])

    def test_the_word_of_what_is_behind_a_ring(self):
        tree = house(r="r", a=MADE)
        self.assertEqual(resolved(tree, "a/../r/../../.."), RING)
        self.assertEqual(resolved(tree, "r/a"), RING)

    def test_by_name(self):
        self.assertEqual(rings(house=house(a="a")), ["a"])


class Chains(unittest.TestCase):
    MANY = 5000

    def chain(self, end, order=1, **more):
        """A house with a chain of symlinks, from the least path on or from the greatest."""
        names = [f"p{k:05}" for k in range(self.MANY)][::order]
        return names, House.of([(one, arrow(other)) for one, other in zip(names, names[1:] + [end])]
                               + [(path, thing) for path, thing in more.items()])

    def test_from_both_ends(self):
        for order in (1, -1):
            names, tree = self.chain("d", order, d=MADE)
            for name in (names[0], names[-1], names[2500]):
                self.assertEqual(resolved(tree, name), ("path", "d"))
                self.assertEqual(resolved(tree, name + "/.."), ("path", ""))
            self.assertEqual(rings(tree), [])

    def test_that_end_elsewhere(self):
        for order in (1, -1):
            for end, result in (("x", MISSING), ("/", OUT), ("..", OUT)):
                names, tree = self.chain(end, order)
                self.assertEqual(resolved(tree, names[0]), result)
                self.assertEqual(resolved(tree, names[-1]), result)
                self.assertEqual(rings(tree), [])

    def test_rings(self):
        for order in (1, -1):
            names, tree = self.chain("p00000" if order == 1 else f"p{self.MANY - 1:05}", order)
            self.assertEqual(rings(tree), sorted(names))
            for name in (names[0], names[-1]):
                self.assertEqual(resolved(tree, name), RING)
            names, tree = self.chain(f"p{self.MANY // 2:05}", order)
            self.assertEqual(rings(tree), sorted(names[names.index(f"p{self.MANY // 2:05}"):]))
            self.assertEqual(resolved(tree, names[0]), RING)

    def test_many_ways(self):
        # Each symlink meets the next one twice: walking each anew would never end.
        rows = [(f"p{k:03}", arrow(f"p{k + 1:03}/../p{k + 1:03}")) for k in range(200)] + [("p200", MADE)]
        self.assertEqual(resolved(House.of(rows), "p000"), ("path", "p200"))
        self.assertEqual(rings(House.of(rows)), [])
        members = [Symlink(path, thing[1]) for path, thing in rows[:-1]] + [Directory("p200")]
        self.assertEqual(dangers(members), [])

    def test_dangers(self):
        members = [Symlink(f"p{k}", f"p{k + 1}") for k in range(self.MANY)]
        self.assertEqual(dangers(members), [(k, "missing") for k in range(self.MANY)])
        self.assertEqual(dangers(members + [File(f"p{self.MANY}", b"")]), [])


class AnyHouses(unittest.TestCase):
    def test_as_the_model(self):
        source = random.Random(14)
        words = {}
        for _ in range(3000):
            tree = any_house(source, 0.6)
            root = grown(tree)
            links = [path for path, thing in tree.entries() if thing[0] == "symlink"]
            self.assertEqual(rings(tree), [path for path in links if is_on_ring(root, path)])
            for name in links + [source.choice(PATHS + TARGETS) for _ in range(3)]:
                name = name + source.choice(["", "", "/", "/.", "/..", "/a", "/../b"])
                expected = resolution(root, name)
                self.assertEqual(resolved(tree, name), expected)
                words[expected[0]] = words.get(expected[0], 0) + 1
        self.assertGreater(min(words[word] for word in ("path", "missing", "out", "ring")), 200)


class Dangers(unittest.TestCase):
    def check(self, members, *expected):
        self.assertEqual(dangers(members), list(expected))
        self.assertEqual(dangers(tuple(members)), list(expected))

    def test_none(self):
        self.check([])
        links = [Symlink("s", "a"), Symlink("d/t", ".."), Link("l", "a")]
        self.check([File("a", b""), Directory("d"), *links, Sparse("p", 1)])

    def test_name(self):
        for name in ("/", "/a", "a/", "a//b", ".", "..", "a/../b"):
            for member in (File(name, b""), Directory(name), Symlink(name, "/"), Link(name, "x"), Sparse(name, 0)):
                self.check([member], (0, "name"))
                self.check([File("a", b""), member, Directory("b")], (1, "name"))
        self.check([Directory("a/"), Directory("b"), Directory("/b")], (0, "name"), (2, "name"))

    def test_names_come_alone(self):
        self.check([Link("a", "x"), Directory("a/")], (1, "name"))
        self.check([Symlink("s", "/"), Symlink("r", "r"), Symlink("m", "x"), Directory("a/")], (3, "name"))

    def test_refused(self):
        self.check([Link("a", "x")], (0, "refused"))
        self.check([File("a", b""), Directory("a")], (0, "hidden"), (1, "refused"))
        self.check([File("a", b""), File("a/b", b""), Directory("a/c")], (1, "refused"))
        self.check([Directory("a"), Symlink("a", "x")], (0, "hidden"), (1, "refused"))
        self.check([Symlink("a", "/"), Directory("a/b")], (1, "refused"))

    def test_symlinks(self):
        self.check([Symlink("a", "/x"), Symlink("b", "x"), Symlink("c", "c"), Symlink("d", "c"), Symlink("e", ".")],
                   (0, "out"), (1, "missing"), (2, "ring"), (3, "ring"))
        self.check([Symlink("d/s", ".."), Symlink("d/t", "../.."), Symlink("d/u", "s/s")], (1, "out"), (2, "missing"))
        self.check([Symlink("s", "f/."), File("f", b"")], (0, "missing"))

    def test_symlinks_at_the_end(self):
        # What comes later counts, for what they lead to too.
        self.check([Symlink("s", "f"), File("f", b"")])
        self.check([Symlink("s", "x"), File("s", b"")], (0, "hidden"))
        self.check([File("s", b""), Symlink("s", "x")], (0, "hidden"), (1, "missing"))
        self.check([Symlink("s", "f"), File("f", b""), Symlink("f", "/")], (0, "out"), (1, "hidden"), (2, "out"))

    def test_the_last_member_with_the_name(self):
        self.check([Symlink("s", "x"), Symlink("s", "x"), File("f", b""), Symlink("s", "x")],
                   (0, "hidden"), (1, "hidden"), (3, "missing"))

    def test_hidden(self):
        self.check([File("a", b""), File("a", b"")], (0, "hidden"))
        self.check([Directory("a"), File("b", b""), Directory("a"), File("a/b", b""), Directory("a")],
                   (0, "hidden"), (2, "hidden"))
        self.check([File("a", b""), File("b", b""), Link("a", "a")], (0, "hidden"))
        self.check([File("a", b""), Link("b", "a"), Symlink("a", "b")], (0, "hidden"))

    def test_hidden_with_each_other_word(self):
        self.check([Directory("a/"), Directory("a/")], (0, "hidden"), (0, "name"), (1, "name"))
        self.check([File("b", b""), Directory("a/"), File("b", b"")], (0, "hidden"), (1, "name"))
        self.check([Link("a", "x"), File("a", b"")], (0, "hidden"), (0, "refused"))
        self.check([File("b", b""), Link("a", "x"), File("b", b"")], (0, "hidden"), (1, "refused"))
        self.check([Symlink("a", "/"), Symlink("a", "/")], (0, "hidden"), (1, "out"))
        self.check([Symlink("a", "a"), Symlink("a", "a")], (0, "hidden"), (1, "ring"))
        self.check([Symlink("a", "x"), Symlink("a", "x")], (0, "hidden"), (1, "missing"))

    def test_the_same_path_by_another_name_hides_nothing(self):
        self.check([Directory("a"), Directory("a/")], (1, "name"))
        self.check([File("a/b", b""), Directory("a")])

    def test_as_the_model(self):
        source = random.Random(15)
        words = {}
        for _ in range(2500):
            members = any_members(source, 8)
            if source.random() < 0.1:
                members += [Directory("a//b")]
            names = [member.name for member in members]
            expected = {(at, "hidden") for at, name in enumerate(names) if name in names[at + 1:]}
            tree, _ = left(House(), members)
            if "a//b" in names:
                expected.add((names.index("a//b"), "name"))
            elif not isinstance(tree, House):
                expected.add((tree[0], "refused"))
            else:
                for path, thing in tree.entries():
                    word = resolution(grown(tree), path)[0]
                    if thing[0] == "symlink" and word != "path":
                        expected.add((len(names) - 1 - names[::-1].index(path), word))
            self.assertEqual(dangers(members), sorted(expected))
            for _, word in expected:
                words[word] = words.get(word, 0) + 1
        self.assertGreater(min(words[word] for word in ("name", "refused", "hidden", "out", "ring", "missing")), 20)

    def test_the_members_stay(self):
        members = [Symlink("a", "a/x"), Symlink("b", "/"), File("b", b"")]
        dangers(members).clear()
        self.assertEqual(members, [Symlink("a", "a/x"), Symlink("b", "/"), File("b", b"")])
        self.assertEqual(dangers(members=members), [(0, "ring"), (1, "hidden")])


class Examples(unittest.TestCase):
    def test_the_examples_of_the_document(self):
        S = House.of([("d", ("directory", 493, 0)), ("d/s", ("symlink", "../t", 511, 0)),
                      ("t", ("symlink", "d", 511, 0))])
        found = [resolved(S, "d/s"), resolved(S, "t/s/."), resolved(S, "d/../.."), rings(S)]
        self.assertEqual(found, [("path", "d"), ("path", "d"), ("out",), []])
        found = dangers([Symlink("a", "a/x"), Symlink("b", "/"), File("b", blob([]))])
        self.assertEqual(found, [(0, "ring"), (1, "hidden")])


class Texts(unittest.TestCase):
    def test_the_targets_of_the_tests_are_names(self):
        self.assertTrue(all(is_name(target) for target in TARGETS))


if __name__ == "__main__":
    unittest.main()
