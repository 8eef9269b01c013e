"""Point [7] and the class of the section "Writing"."""

import unittest

from samples import ANY, MEMBERS, Raising, archive, packed
from tarhouse.blobs import blob
from tarhouse.errors import Closed, NoMember, TooMany
from tarhouse.members import Directory, File, Link, Member, Symlink
from tarhouse.writing import Writer, written

A = File("a/b", blob([1, 2, 3]), time=7)
B = Link("c", "a/b")
D = Directory("a", mode=448)
NO_MEMBERS = [thing for thing in ANY if not isinstance(thing, Member)] + [[A], (A, B), {1: A}, File]


class Case(Raising):
    def holds(self, writer, members):
        """Check that a writer has just these members."""
        self.assertEqual(len(writer), len(members))
        self.assertEqual(writer.archive, archive(members))


class Adding(Case):
    def test_one_at_a_time(self):
        writer = Writer()
        self.holds(writer, [])
        offset = 0
        for many, member in enumerate(MEMBERS):
            self.assertEqual(writer.add(member), [offset])
            offset += len(packed(member))
            self.holds(writer, MEMBERS[:many + 1])

    def test_several_at_once(self):
        writer = Writer()
        offsets = []
        end = 0
        for member in MEMBERS:
            offsets.append(end)
            end += len(packed(member))
        self.assertEqual(writer.add(*MEMBERS), offsets)
        self.assertEqual(writer.add(*MEMBERS), [end + offset for offset in offsets])
        self.holds(writer, MEMBERS * 2)

    def test_offsets_are_those_of_long_parts(self):
        writer = Writer()
        self.assertEqual(writer.add(Symlink("s" * 101, "t" * 101), A, Directory("n" * 101), D), [0, 2560, 3584, 5120])
        self.assertEqual(writer.add(Link("l", "t" * 101)), [5632])
        self.assertEqual(writer.add(A), [7168])

    def test_nothing(self):
        writer = Writer()
        self.assertEqual(writer.add(), [])
        writer.add(A)
        self.assertEqual(writer.add(), [])
        self.holds(writer, [A])

    def test_the_same_member_again(self):
        writer = Writer()
        self.assertEqual(writer.add(A, A), [0, 1024])
        self.assertEqual(writer.add(A), [2048])
        self.holds(writer, [A, A, A])

    def test_what_is_returned_is_the_callers(self):
        writer = Writer()
        offsets = writer.add(A, B)
        offsets.clear()
        self.assertEqual(writer.add(D), [1536])
        self.holds(writer, [A, B, D])

    def test_two_writers_share_nothing(self):
        one, other = Writer(), Writer()
        one.add(A)
        self.holds(other, [])
        other.add(D, B)
        one.close()
        other.add(A)
        self.holds(one, [A])
        self.holds(other, [D, B, A])

    def test_a_member_that_is_changed_later(self):
        member = File("a", b"1")
        writer = Writer()
        writer.add(member)
        member.name = "b"
        self.holds(writer, [File("a", b"1")])


class Limits(Case):
    def test_the_limit(self):
        self.assertEqual(Writer.LIMIT, 100)
        self.assertEqual(Writer().LIMIT, 100)

    def test_one_by_one(self):
        writer = Writer()
        for _ in range(100):
            writer.add(D)
        self.raises(TooMany, writer.add, D, limit=100)
        self.holds(writer, [D] * 100)
        self.assertEqual(writer.add(), [])
        self.assertEqual(writer.close(), archive([D] * 100))

    def test_all_at_once(self):
        writer = Writer()
        self.assertEqual(writer.add(*[D] * 100), [512 * k for k in range(100)])
        self.holds(writer, [D] * 100)
        writer = Writer()
        self.raises(TooMany, writer.add, *[D] * 101, limit=100)
        self.holds(writer, [])

    def test_beyond_the_limit_by_several(self):
        writer = Writer()
        writer.add(*[D] * 98)
        self.raises(TooMany, writer.add, A, B, D, limit=100)
        self.holds(writer, [D] * 98)
        self.assertEqual(writer.add(A, B), [98 * 512, 100 * 512])
        self.raises(TooMany, writer.add, D, limit=100)
        self.holds(writer, [D] * 98 + [A, B])


class NoMembers(Case):
    def test_any_other_value(self):
        writer = Writer()
        writer.add(A)
        for thing in NO_MEMBERS:
            with self.subTest(thing=thing):
                self.raises(NoMember, writer.add, thing, thing=thing)
                self.raises(NoMember, writer.add, B, thing, D, thing=thing)
                self.raises(NoMember, writer.add, B, D, thing, thing=thing)
                self.holds(writer, [A])

    def test_the_first_one(self):
        writer = Writer()
        self.raises(NoMember, writer.add, A, "one", B, "two", thing="one")
        self.raises(NoMember, writer.add, None, 5, thing=None)
        self.holds(writer, [])

    def test_before_the_limit(self):
        writer = Writer()
        writer.add(*[D] * 100)
        self.raises(NoMember, writer.add, 0, thing=0)
        self.raises(NoMember, writer.add, D, "x", thing="x")
        self.raises(NoMember, Writer().add, *[D] * 101, True, thing=True)
        self.holds(writer, [D] * 100)

    def test_after_closing(self):
        writer = Writer()
        writer.add(A)
        writer.close()
        self.raises(Closed, writer.add, 0)
        self.raises(Closed, writer.add, *[D] * 101)
        self.raises(Closed, writer.add, *[D] * 101, 0)
        self.holds(writer, [A])


class Closing(Case):
    def test_the_archive(self):
        writer = Writer()
        writer.add(A, D)
        self.assertEqual(writer.archive, written([A, D]))
        self.assertEqual(writer.close(), written([A, D]))
        self.holds(writer, [A, D])

    def test_without_members(self):
        self.assertEqual(Writer().close(), bytes(1024))

    def test_closed(self):
        writer = Writer()
        writer.add(A)
        writer.close()
        self.raises(Closed, writer.close)
        self.raises(Closed, writer.add)
        self.raises(Closed, writer.add, A)
        self.holds(writer, [A])

    def test_the_archive_is_a_property(self):
        self.assertIsInstance(Writer.archive, property)
        with self.assertRaises(AttributeError):
            Writer().archive = b""


class Contexts(Case):
    def test_the_writer_is_given_and_closed(self):
        made = Writer()
        with made as writer:
            self.assertIs(writer, made)
            writer.add(A)
            self.assertEqual(writer.add(B), [1024])
        self.raises(Closed, made.add, D)
        self.raises(Closed, made.close)
        self.holds(made, [A, B])

    def test_an_error_propagates(self):
        writer = Writer()
        with self.assertRaises(ZeroDivisionError):
            with writer:
                writer.add(A)
                1 // 0
        self.raises(Closed, writer.add, B)
        self.holds(writer, [A])

    def test_an_error_of_the_writer_propagates(self):
        writer = Writer()
        with self.assertRaises(NoMember):
            with writer:
                writer.add(A)
                writer.add(A, 0)
        self.raises(Closed, writer.close)
        self.holds(writer, [A])

    def test_closed_inside(self):
        with Writer() as writer:
            writer.add(A)
            self.assertEqual(writer.close(), archive([A]))
            self.raises(Closed, writer.add, B)
        self.raises(Closed, writer.close)
        self.holds(writer, [A])

    def test_a_closed_writer(self):
        closed = Writer()
        closed.add(A)
        closed.close()
        with closed as writer:
            self.assertIs(writer, closed)
            self.raises(Closed, writer.add, B)
            self.assertEqual(writer.archive, archive([A]))
        self.raises(Closed, closed.close)
        self.holds(closed, [A])

    def test_twice(self):
        writer = Writer()
        with writer:
            with writer:
                writer.add(A)
            self.raises(Closed, writer.add, B)
        self.holds(writer, [A])

    def test_return_and_break(self):
        def inside():
            with writer:
                return writer.add(D)

        writer = Writer()
        self.assertEqual(inside(), [0])
        self.raises(Closed, writer.close)


class Filling(Case):
    def test_a_function_that_adds(self):
        writer = Writer()
        writer.add(D)
        self.assertEqual(writer.fill(lambda given: given.add(A, B)), archive([D, A, B]))
        self.raises(Closed, writer.add, A)
        self.holds(writer, [D, A, B])

    def test_the_function_gets_the_writer_open(self):
        writer = Writer()
        seen = []

        def function(given):
            seen.append(given)
            given.add(A)
            return "not used"

        self.assertEqual(writer.fill(function), archive([A]))
        self.assertEqual(len(seen), 1)
        self.assertIs(seen[0], writer)

    def test_a_function_that_does_nothing(self):
        self.assertEqual(Writer().fill(lambda writer: None), bytes(1024))

    def test_a_function_that_closes(self):
        writer = Writer()
        self.assertEqual(writer.fill(lambda given: [given.add(A), given.close()]), archive([A]))
        self.raises(Closed, writer.close)

    def test_a_function_that_raises(self):
        writer = Writer()
        with self.assertRaises(ZeroDivisionError):
            writer.fill(lambda given: [given.add(A), 1 // 0])
        self.raises(Closed, writer.add, B)
        self.holds(writer, [A])

    def test_a_function_that_the_writer_refuses(self):
        writer = Writer()
        self.raises(NoMember, writer.fill, lambda given: given.add(A, "x"), thing="x")
        self.raises(Closed, writer.close)
        self.holds(writer, [])

    def test_a_closed_writer(self):
        writer = Writer()
        writer.add(A)
        writer.close()
        self.assertEqual(writer.fill(len), archive([A]))
        self.raises(Closed, writer.fill, lambda given: given.add(B))
        self.holds(writer, [A])

    def test_by_name(self):
        self.assertEqual(Writer().fill(function=lambda writer: writer.add(A)), archive([A]))


class Examples(unittest.TestCase):
    def test_the_examples_of_the_document(self):
        w = Writer()
        found = [w.add(A, D), w.add(B), len(w), w.close() == written([A, D, B])]
        self.assertEqual(found, [[0, 1024], [1536], 3, True])
        self.assertEqual(Writer().fill(lambda writer: writer.add(A)), written([A]))


if __name__ == "__main__":
    unittest.main()
