"""Point [5] and the section "Members": the five kinds of members."""

import inspect
import itertools
import unittest

from tarhouse.blobs import blob
from tarhouse.errors import NoData, NoMode, NoName, NoPieces, NoSize, NoTime
from tarhouse.members import Directory, File, Link, Member, Sparse, Symlink

A = File("a/b", blob([1, 2, 3]), time=7)
B = Link("c", "a/b")
D = Directory("a", mode=448)

# Each kind with right arguments, its word and its mode by default.
KINDS = [
    (File, ["n", b"xy"], "file", 420),
    (Sparse, ["n", 9, (1, b"x"), (4, b"yz")], "sparse", 420),
    (Directory, ["n"], "directory", 493),
    (Symlink, ["n", "t"], "symlink", 511),
    (Link, ["n", "t"], "link", 420),
]
LAST_TIME = 8589934591
NO_INTEGERS = [True, False, None, "1", "", b"1", [1], (1,), {}, [], D]
NO_NAMES = ["", "A", "a b", "a\n", "a" * 251, "\u00e4", None, True, 0, b"a", ["a"], ("a",), {}, D]
NO_DATA = [None, True, 0, "", "ab", [], [1, 2], (1,), {}, D, b"x" * 4097, b"x" * 60000]


class Case(unittest.TestCase):
    def refused(self, error, value, kind, *given, **named):
        """Check that a call raises this very error with this value as its field."""
        with self.subTest(kind=kind.__name__, given=given, named=named):
            with self.assertRaises(error) as caught:
                kind(*given, **named)
            self.assertIs(type(caught.exception), error)
            (told,) = vars(caught.exception).values()
            self.assertEqual(told, value)
            self.assertIs(type(told), type(value))
            (field,) = inspect.signature(error).parameters
            self.assertEqual(getattr(caught.exception, field), value)


class Attributes(Case):
    def test_classes(self):
        for kind, given, word, _ in KINDS:
            with self.subTest(kind=kind.__name__):
                self.assertTrue(issubclass(kind, Member))
                self.assertEqual(kind.KIND, word)
                self.assertEqual(kind(*given).KIND, word)
                self.assertEqual(kind.__module__, "tarhouse.members")

    def test_no_kind_is_another_kind(self):
        for (one, *_), (other, *_) in itertools.permutations(KINDS, 2):
            self.assertFalse(issubclass(one, other))

    def test_defaults(self):
        for kind, given, _, mode in KINDS:
            with self.subTest(kind=kind.__name__):
                member = kind(*given)
                self.assertEqual((member.name, member.mode, member.time), ("n", mode, 0))
                self.assertIs(type(member.mode), int)
                self.assertIs(type(member.time), int)

    def test_arguments(self):
        for kind, given, _, _ in KINDS:
            with self.subTest(kind=kind.__name__):
                member = kind(*given, mode=7, time=8)
                self.assertEqual((member.name, member.mode, member.time), ("n", 7, 8))

    def test_arguments_of_one_kind(self):
        self.assertEqual(File("n", b"xy").data, b"xy")
        self.assertEqual(Symlink("n", "t/../u").target, "t/../u")
        self.assertEqual(Link("n", "t").target, "t")
        sparse = Sparse("n", 9, (1, b"x"), (4, b"yz"))
        self.assertEqual((sparse.size, sparse.pieces), (9, ((1, b"x"), (4, b"yz"))))
        self.assertIs(type(sparse.pieces), tuple)
        self.assertEqual(Sparse("n", 9).pieces, ())

    def test_by_name_in_another_order(self):
        self.assertEqual(File(time=3, data=b"x", mode=2, name="n"), File("n", b"x", mode=2, time=3))
        self.assertEqual(Sparse(mode=2, size=5, time=3, name="n"), Sparse("n", 5, mode=2, time=3))
        self.assertEqual(Directory(time=3, name="n", mode=2), Directory("n", mode=2, time=3))
        self.assertEqual(Symlink(target="t", time=3, name="n", mode=2), Symlink("n", "t", mode=2, time=3))
        self.assertEqual(Link(time=3, target="t", mode=2, name="n"), Link("n", "t", mode=2, time=3))
        member = Link(target="t", name="n", time=1)
        self.assertEqual((member.name, member.target, member.mode, member.time), ("n", "t", 420, 1))

    def test_mode_and_time_only_by_name(self):
        for kind, given, _, _ in KINDS:
            parameters = inspect.signature(kind).parameters
            for name in ("mode", "time"):
                with self.subTest(kind=kind.__name__, name=name):
                    self.assertEqual(parameters[name].kind, inspect.Parameter.KEYWORD_ONLY)
            if kind is not Sparse:
                with self.assertRaises(TypeError):
                    kind(*given, 420)
        self.refused(NoPieces, ((1, b"x"), 420), Sparse, "n", 9, (1, b"x"), 420)

    def test_representation(self):
        for kind, given, word, _ in KINDS:
            with self.subTest(kind=kind.__name__):
                self.assertEqual(repr(kind("a/..b-_9", *given[1:])), f"{word.capitalize()}('a/..b-_9')")
        self.assertEqual(repr([A, B, D]), "[File('a/b'), Link('c'), Directory('a')]")

    def test_a_list_of_pieces_can_change_later(self):
        pieces = [(0, b"x"), (2, b"y")]
        sparse = Sparse("n", 9, *pieces)
        pieces.append((4, b"z"))
        pieces[0] = (0, b"q")
        self.assertEqual(sparse, Sparse("n", 9, (0, b"x"), (2, b"y")))


class NamesAndTargets(Case):
    def test_right_names(self):
        for name in ("a", "/", "..", "a//b", "/x..y//", "a" * 100, "a" * 101, "a" * 250):
            for kind, given, _, _ in KINDS:
                self.assertEqual(kind(name, *given[1:]).name, name)
            for kind in (Symlink, Link):
                self.assertEqual(kind("n", name).target, name)

    def test_wrong_names(self):
        for name in NO_NAMES:
            for kind, given, _, _ in KINDS:
                self.refused(NoName, name, kind, name, *given[1:])

    def test_wrong_targets(self):
        for target in NO_NAMES:
            for kind in (Symlink, Link):
                self.refused(NoName, target, kind, "n", target)
                self.refused(NoName, target, kind, target=target, name="n")


class ModesAndTimes(Case):
    def test_right_modes(self):
        for mode in (0, 1, 420, 493, 511, 4094, 4095):
            for kind, given, _, _ in KINDS:
                self.assertEqual(kind(*given, mode=mode).mode, mode)

    def test_wrong_modes(self):
        for mode in (-1, 4096, 4097, -10 ** 59, 10 ** 59, *NO_INTEGERS):
            for kind, given, _, _ in KINDS:
                self.refused(NoMode, mode, kind, *given, mode=mode)

    def test_right_times(self):
        for time in (0, 1, 2 ** 31, LAST_TIME - 1, LAST_TIME):
            for kind, given, _, _ in KINDS:
                self.assertEqual(kind(*given, time=time).time, time)

    def test_wrong_times(self):
        for time in (-1, LAST_TIME + 1, LAST_TIME + 2, -10 ** 59, 10 ** 59, *NO_INTEGERS):
            for kind, given, _, _ in KINDS:
                self.refused(NoTime, time, kind, *given, time=time)


class Files(Case):
    def test_right_data(self):
        for data in (b"", b"\x00", b"ab", bytes(range(256)), b"x" * 4095, b"x" * 4096):
            member = File("n", data)
            self.assertEqual(member.data, data)
            self.assertEqual(member.content(), data)
            self.assertIs(type(member.content()), bytes)

    def test_wrong_data(self):
        for thing in NO_DATA:
            self.refused(NoData, thing, File, "n", thing)
            self.refused(NoData, thing, File, data=thing, name="n")


class SparseFiles(Case):
    def right(self, size, *pieces):
        with self.subTest(size=size, pieces=pieces):
            member = Sparse("n", size, *pieces)
            self.assertEqual((member.size, member.pieces), (size, pieces))
            content = [0] * size
            for offset, data in pieces:
                content[offset:offset + len(data)] = list(data)
            self.assertEqual(list(member.content()), content)
            self.assertIs(type(member.content()), bytes)

    def wrong(self, size, *pieces):
        self.refused(NoPieces, pieces, Sparse, "n", size, *pieces)

    def test_sizes(self):
        for size in (0, 1, 511, 512, 513, 4095, 4096):
            self.right(size)

    def test_wrong_sizes(self):
        for size in (-1, 4097, 4098, -10 ** 59, 10 ** 59, *NO_INTEGERS):
            self.refused(NoSize, size, Sparse, "n", size)
            self.refused(NoSize, size, Sparse, size=size, name="n")

    def test_one_piece(self):
        self.right(1, (0, b"x"))
        self.right(5, (1, b"\x09"))
        self.right(5, (4, b"x"))
        self.right(5, (0, b"abcde"))
        self.right(4096, (0, b"x" * 4096))
        self.right(4096, (4095, b"x"))
        self.right(3, (1, b"\x00"))

    def test_several_pieces(self):
        self.right(3, (0, b"a"), (2, b"b"))
        self.right(12, (1, b"abc"), (5, b"d"), (9, b"ef"))
        self.right(12, (0, b"abc"), (4, b"defg"), (9, b"hij"))

    def test_how_many_pieces(self):
        pieces = [(2 * k, b"x") for k in range(51)]
        self.right(101, *pieces[:49])
        self.right(101, *pieces[:50])
        self.wrong(101, *pieces)
        self.wrong(4096, *[(3 * k, b"xy") for k in range(60)])

    def test_empty_pieces(self):
        self.wrong(5, (0, b""))
        self.wrong(5, (5, b""))
        self.wrong(0, (0, b""))
        self.wrong(9, (0, b"x"), (3, b""), (5, b"x"))

    def test_space_between_pieces(self):
        self.right(9, (1, b"ab"), (4, b"c"))
        self.wrong(9, (1, b"ab"), (3, b"c"))
        self.wrong(9, (1, b"ab"), (2, b"c"))
        self.wrong(9, (1, b"ab"), (1, b"c"))
        self.wrong(9, (4, b"ab"), (1, b"c"))
        self.wrong(9, (1, b"a"), (1, b"a"))
        self.right(9, (0, b"a"), (2, b"b"), (4, b"c"))
        self.wrong(9, (0, b"a"), (2, b"b"), (3, b"c"))
        self.wrong(9, (0, b"a"), (4, b"c"), (2, b"b"))

    def test_the_end_of_the_size(self):
        self.right(9, (7, b"ab"))
        self.wrong(9, (8, b"ab"))
        self.wrong(9, (9, b"a"))
        self.wrong(9, (10, b"a"))
        self.wrong(0, (0, b"a"))
        self.right(9, (0, b"a"), (8, b"b"))
        self.wrong(9, (0, b"a"), (8, b"bc"))
        self.wrong(9, (0, b"a"), (10 ** 59, b"b"))
        self.wrong(4096, (0, b"a" * 4097))
        self.wrong(4096, (4095, b"ab"))

    def test_offsets(self):
        self.wrong(9, (-1, b"a"))
        self.wrong(9, (-5, b"abc"), (4, b"a"))
        self.wrong(9, (-10 ** 59, b"a"))
        for offset in NO_INTEGERS:
            self.wrong(9, (offset, b"a"))
            self.wrong(9, (0, b"a"), (offset, b"a"))

    def test_data_of_pieces(self):
        for data in (None, True, 1, "", "a", [97], (97,), {}, D):
            self.wrong(9, (2, data))
            self.wrong(9, (0, b"a"), (2, data))

    def test_pieces_that_are_no_pairs(self):
        for piece in ([0, b"a"], [], (), (0,), (b"a",), (0, b"a", 0), (b"a", 0), None, 0, True,
                      b"a", b"ab", "ab", {0: b"a"}, {0: 1, 1: b"a"}, D, ((0, b"a"),), [(0, b"a")]):
            self.wrong(9, piece)
            self.wrong(9, (0, b"a"), piece)
            self.wrong(9, piece, (4, b"a"))

    def test_the_example_of_the_document(self):
        self.assertEqual(list(Sparse("s", 5, (1, blob([9]))).content()), [0, 9, 0, 0, 0])


class TwoWrongArguments(Case):
    def test_the_name_comes_first(self):
        self.refused(NoName, "A", File, "A", "no data", mode=-1, time=-1)
        self.refused(NoName, "A", Sparse, "A", -1, 0, mode=-1, time=-1)
        self.refused(NoName, "A", Directory, "A", mode=-1, time=-1)
        self.refused(NoName, "A", Symlink, "A", "B", mode=-1, time=-1)
        self.refused(NoName, "A", Link, "A", "B", mode=-1, time=-1)
        self.refused(NoName, "A", Directory, "A", time=-1)
        self.refused(NoName, None, Link, time=None, target=None, name=None, mode=None)

    def test_then_what_is_the_kinds_own(self):
        self.refused(NoData, "x", File, "n", "x", mode=-1, time=-1)
        self.refused(NoData, "x", File, time=-1, data="x", name="n")
        self.refused(NoSize, -1, Sparse, "n", -1, 0, mode=-1, time=-1)
        self.refused(NoSize, True, Sparse, "n", True, (9, b""))
        self.refused(NoPieces, (0,), Sparse, "n", 5, 0, mode=-1, time=-1)
        self.refused(NoPieces, ((0, b""),), Sparse, "n", 5, (0, b""), time=-1)
        self.refused(NoName, "B", Symlink, "n", "B", mode=-1, time=-1)
        self.refused(NoName, "B", Link, "n", "B", mode=-1, time=-1)
        self.refused(NoName, "B", Link, "n", "B", time=-1)

    def test_then_the_mode_and_the_time(self):
        for kind, given, _, _ in KINDS:
            self.refused(NoMode, 4096, kind, *given, mode=4096, time=-1)
            self.refused(NoMode, 4096, kind, *given, time=-1, mode=4096)
            self.refused(NoTime, -1, kind, *given, time=-1, mode=4095)


class Equality(Case):
    def same(self, one, other):
        with self.subTest(one=one, other=other):
            self.assertIs(one == other, True)
            self.assertIs(other == one, True)
            self.assertIs(one != other, False)

    def different(self, one, other):
        with self.subTest(one=one, other=other):
            self.assertIs(one == other, False)
            self.assertIs(other == one, False)
            self.assertIs(one != other, True)

    def test_equal_members(self):
        for kind, given, _, mode in KINDS:
            self.same(kind(*given), kind(*given))
            self.same(kind(*given), kind(*given, mode=mode, time=0))
            self.same(kind(*given, mode=1, time=2), kind(*given, time=2, mode=1))
            member = kind(*given)
            self.same(member, member)

    def test_each_attribute_counts(self):
        for kind, given, _, _ in KINDS:
            self.different(kind(*given), kind("m", *given[1:]))
            self.different(kind(*given), kind(*given, mode=1))
            self.different(kind(*given), kind(*given, time=1))
        self.different(File("n", b"x"), File("n", b"y"))
        self.different(File("n", b"x"), File("n", b"x\x00"))
        self.different(Symlink("n", "t"), Symlink("n", "u"))
        self.different(Link("n", "t"), Link("n", "u"))
        self.different(Sparse("n", 5), Sparse("n", 6))
        self.different(Sparse("n", 5, (0, b"x")), Sparse("n", 5))
        self.different(Sparse("n", 5, (0, b"x")), Sparse("n", 5, (1, b"x")))
        self.different(Sparse("n", 5, (0, b"x")), Sparse("n", 5, (0, b"y")))
        self.different(Sparse("n", 5, (0, b"x")), Sparse("n", 5, (0, b"x"), (2, b"x")))
        # Zero bytes that are stored and such that are not have the same content.
        self.different(Sparse("n", 5, (0, b"\x00")), Sparse("n", 5))

    def test_other_kinds_are_unequal(self):
        members = [kind(*given, mode=1, time=2) for kind, given, _, _ in KINDS]
        for one, other in itertools.combinations(members, 2):
            self.different(one, other)

    def test_other_kinds_with_equal_attributes(self):
        self.different(Symlink("n", "t", mode=1), Link("n", "t", mode=1))
        self.different(File("n", b""), Sparse("n", 0))
        self.different(File("n", b"x"), Sparse("n", 1, (0, b"x")))
        self.different(Directory("n", mode=420), File("n", b""))

    def test_values_that_are_no_members(self):
        for kind, given, word, mode in KINDS:
            member = kind(*given)
            for thing in (None, True, False, 0, 1, "n", repr(member), b"xy", [], [member], (member,),
                          {}, tuple(given), given, (word, *given, mode, 0), vars(member), kind):
                self.different(member, thing)

    def test_values_that_compare_by_themselves(self):
        class Same:
            def __eq__(self, other):
                return True

        for kind, given, _, _ in KINDS:
            self.assertIs(kind(*given) == Same(), False)

    def test_objects_with_the_same_attributes(self):
        class Other:
            pass

        for kind, given, word, _ in KINDS:
            member = kind(*given)
            other = Other()
            vars(other).update(vars(member), KIND=word)
            self.different(member, other)

    def test_in_lists(self):
        self.assertEqual([A, B, D], [File("a/b", b"\x01\x02\x03", time=7), Link("c", "a/b"), Directory("a", mode=448)])
        self.assertIn(Link("c", "a/b"), [A, B])
        self.assertNotIn(D, [A, B])

    def test_the_example_of_the_document(self):
        found = [A == File("a/b", blob([1, 2, 3]), time=7, mode=420), A == B]
        self.assertEqual(found, [True, False])


if __name__ == "__main__":
    unittest.main()
