"""Points [2], [3] and [14], and the section "Editing"."""

import random
import unittest

from model_houses import any_members
from samples import ANY, MEMBERS, Raising, archive, packed
from tarhouse.blobs import blob
from tarhouse.editing import Editor
from tarhouse.errors import NoData, NoEdit, NoIndex, NoMember, TooMany, Torn, Wrong
from tarhouse.members import Directory, File, Link, Member, Sparse, Symlink
from tarhouse.reading import scan
from tarhouse.writing import written

A = File("a/b", blob([1, 2, 3]), time=7)
B = Link("c", "a/b")
D = Directory("a", mode=448)
LONG = Symlink("s" * 101, "t" * 101)
NO_MEMBERS = [thing for thing in ANY if not isinstance(thing, Member)] + [[A], (A, B), {1: A}, File, Member()]
NO_INDICES = [True, False, None, -1, 10 ** 59, -(10 ** 59), "0", "", b"0", [0], (0,), {0: 0}, [], A]


def blocks(data):
    return [data[at:at + 512] for at in range(0, len(data), 512)]


def differing(before, after):
    """The blocks of an archive that another one has not in their place."""
    old, new = blocks(before), blocks(after)
    return [index for index, block in enumerate(new) if index >= len(old) or old[index] != block]


class Case(Raising):
    def holds(self, editor, members):
        """Check that an editor has just these members."""
        self.assertEqual(editor.archive, archive(members))
        self.assertEqual(editor.archive, written(members))
        self.assertEqual(editor.members, members)
        self.assertIs(type(editor.members), list)
        self.assertEqual(editor.offsets, [sum(len(packed(m)) for m in members[:many]) for many in range(len(members))])
        self.assertIs(type(editor.offsets), list)
        self.assertEqual(len(editor), len(members))

    def edits(self, editor, edit, members):
        """Check an edit, after which an editor has these members; return the blocks."""
        before = editor.archive
        found = edit()
        self.holds(editor, members)
        self.assertEqual(found, differing(before, editor.archive))
        self.assertIs(type(found), list)
        return found

    def unchanged(self, editor, error, function, *given, **fields):
        """Check that a call raises an error, and that nothing changes then."""
        members = editor.members
        self.raises(error, function, *given, **fields)
        self.holds(editor, members)

    def all_undone(self, editor, states):
        """Check undoing one by one; `states` are the lists of members before each edit."""
        for members in states[::-1]:
            self.edits(editor, editor.undo, members)
        self.unchanged(editor, NoEdit, editor.undo)


class Making(Case):
    def test_without_members(self):
        self.holds(Editor(), [])
        self.assertEqual(Editor.LIMIT, 100)
        self.assertEqual(Editor().LIMIT, 100)

    def test_of_an_archive(self):
        self.holds(Editor.of(written([])), [])
        self.holds(Editor.of(archive(MEMBERS)), MEMBERS)
        self.holds(Editor.of(data=written([A, B])), [A, B])

    def test_bytes_behind_the_end(self):
        for more in (b"x", bytes(1), bytes(512), b"x" * 3000, archive([D])):
            editor = Editor.of(archive([A, B]) + more)
            self.holds(editor, [A, B])
            self.assertEqual(self.edits(editor, lambda: editor.add(D), [A, B, D]), [3, 5])
            self.edits(editor, editor.undo, [A, B])

    def test_torn_and_wrong(self):
        data = archive([A, B])
        for size in range(0, len(data), 100):
            offset = 0 if size < 1024 else min(size // 512 * 512, 1536)
            self.raises(Torn, Editor.of, data[:size], offset=offset)
        self.raises(Wrong, Editor.of, b"\xff" + data[1:], offset=0, field="name")
        self.raises(Wrong, Editor.of, data[:600] + b"\x01" + data[601:], offset=0, field="padding")
        self.raises(Wrong, Editor.of, data[:-1] + b"\x01", offset=1536, field="end")

    def test_no_data(self):
        for thing in ANY:
            if not isinstance(thing, bytes):
                self.raises(NoData, Editor.of, thing, thing=thing)

    def test_too_many(self):
        members = [File(f"f{number}", b"") for number in range(101)]
        self.holds(Editor.of(written(members[:100])), members[:100])
        self.raises(TooMany, Editor.of, written(members), limit=100)

    def test_too_many_of_a_wrong_archive(self):
        data = written([File(f"f{number}", b"") for number in range(101)])
        self.raises(Torn, Editor.of, data[:-1], offset=101 * 512)
        self.raises(Wrong, Editor.of, data[:-1] + b"x", offset=101 * 512, field="end")

    def test_no_edit_at_first(self):
        self.unchanged(Editor(), NoEdit, Editor().undo)
        editor = Editor.of(written([A]))
        self.unchanged(editor, NoEdit, editor.undo)


class Adding(Case):
    def test_one_and_several(self):
        editor = Editor()
        self.assertEqual(self.edits(editor, lambda: editor.add(A), [A]), [0, 1, 2, 3])
        self.assertEqual(self.edits(editor, lambda: editor.add(B, D), [A, B, D]), [2, 3, 4, 5])
        self.all_undone(editor, [[], [A]])

    def test_blocks_of_zeros_are_not_written_again(self):
        # The second block of the file is where a zero block was.
        editor = Editor()
        zeros = File("z", bytes(600))
        self.assertEqual(self.edits(editor, lambda: editor.add(zeros), [zeros]), [0, 2, 3, 4])
        self.assertEqual(self.edits(editor, lambda: editor.add(zeros, zeros), [zeros] * 3), [3, 5, 6, 7, 8, 9, 10])

    def test_each_member(self):
        editor = Editor()
        states = []
        for many, member in enumerate(MEMBERS):
            states.append(editor.members)
            self.edits(editor, lambda member=member: editor.add(member), MEMBERS[:many + 1])
        self.all_undone(editor, states)

    def test_nothing(self):
        editor = Editor()
        self.assertEqual(self.edits(editor, editor.add, []), [])
        self.edits(editor, lambda: editor.add(A), [A])
        self.assertEqual(self.edits(editor, editor.add, [A]), [])
        self.assertEqual(self.edits(editor, editor.add, [A]), [])
        self.all_undone(editor, [[], [], [A], [A]])

    def test_no_members(self):
        editor = Editor.of(written([A, B]))
        for thing in NO_MEMBERS:
            self.unchanged(editor, NoMember, editor.add, thing, thing=thing)
            self.unchanged(editor, NoMember, editor.add, D, thing, None, thing=thing)
        self.unchanged(editor, NoEdit, editor.undo)

    def test_too_many(self):
        editor = Editor()
        many = [File(f"f{number}", b"") for number in range(100)]
        editor.add(*many[:99])
        self.unchanged(editor, TooMany, editor.add, A, A, limit=100)
        self.edits(editor, lambda: editor.add(many[99]), many)
        self.unchanged(editor, TooMany, editor.add, A, limit=100)
        self.assertEqual(self.edits(editor, editor.add, many), [])
        self.unchanged(Editor(), TooMany, Editor().add, *many, A, limit=100)
        self.unchanged(editor, NoMember, editor.add, A, 5, thing=5)
        self.edits(editor, lambda: editor.take_out(0), many[1:])
        self.edits(editor, lambda: editor.add(A), many[1:] + [A])


class Exchanging(Case):
    def test_of_the_same_length(self):
        editor = Editor.of(written([A, B, D]))
        other = File("a/b", blob([1, 2, 4]), time=7)
        self.assertEqual(self.edits(editor, lambda: editor.exchange(0, other), [other, B, D]), [1])
        renamed = File("a/c", blob([1, 2, 4]), time=7)
        self.assertEqual(self.edits(editor, lambda: editor.exchange(0, renamed), [renamed, B, D]), [0])
        self.assertEqual(self.edits(editor, lambda: editor.exchange(2, B), [renamed, B, B]), [3])
        self.all_undone(editor, [[A, B, D], [other, B, D], [renamed, B, D]])

    def test_by_an_equal_one(self):
        editor = Editor.of(written([A, B, D]))
        self.assertEqual(self.edits(editor, lambda: editor.exchange(1, Link("c", "a/b")), [A, B, D]), [])
        self.all_undone(editor, [[A, B, D]])

    def test_of_another_length(self):
        editor = Editor.of(written([A, B, D]))
        self.assertEqual(self.edits(editor, lambda: editor.exchange(1, LONG), [A, LONG, D]), [2, 3, 4, 5, 6, 7, 8, 9])
        self.assertEqual(self.edits(editor, lambda: editor.exchange(1, D), [A, D, D]), [2, 3, 4, 5])
        empty = File("a/b", b"")
        self.assertEqual(self.edits(editor, lambda: editor.exchange(0, empty), [empty, D, D]), [0, 1, 3])
        self.all_undone(editor, [[A, B, D], [A, LONG, D], [A, D, D]])

    def test_by_the_names_of_the_parameters(self):
        editor = Editor.of(written([A]))
        self.edits(editor, lambda: editor.exchange(member=B, index=0), [B])
        self.edits(editor, lambda: editor.take_out(index=0), [])

    def test_errors(self):
        editor = Editor.of(written([A, B]))
        for index in NO_INDICES + [2, 3]:
            self.unchanged(editor, NoIndex, editor.exchange, index, D, index=index)
            self.unchanged(editor, NoIndex, editor.exchange, index, None, index=index)
        for thing in NO_MEMBERS:
            self.unchanged(editor, NoMember, editor.exchange, 1, thing, thing=thing)
        self.unchanged(Editor(), NoIndex, Editor().exchange, 0, A, index=0)
        self.unchanged(editor, NoEdit, editor.undo)

    def test_at_the_limit(self):
        editor = Editor()
        editor.add(*[A] * 100)
        self.edits(editor, lambda: editor.exchange(99, B), [A] * 99 + [B])


class TakingOut(Case):
    def test_each_place(self):
        for index, blocks_written in ((0, [0, 1, 2, 3]), (1, [2, 3]), (2, [3])):
            members = [A, B, D]
            editor = Editor.of(written(members))
            del members[index]
            self.assertEqual(self.edits(editor, lambda: editor.take_out(index), members), blocks_written)
            self.all_undone(editor, [[A, B, D]])

    def test_all(self):
        editor = Editor.of(archive(MEMBERS))
        states = []
        source = random.Random(1)
        members = list(MEMBERS)
        while members:
            states.append(list(members))
            index = source.randrange(len(members))
            del members[index]
            self.edits(editor, lambda index=index: editor.take_out(index), members)
        self.unchanged(editor, NoIndex, editor.take_out, 0, index=0)
        self.all_undone(editor, states)

    def test_one_of_equal_ones(self):
        editor = Editor.of(written([D, D, D]))
        self.assertEqual(self.edits(editor, lambda: editor.take_out(0), [D, D]), [2])

    def test_errors(self):
        editor = Editor.of(written([A, B]))
        for index in NO_INDICES + [2, 3]:
            self.unchanged(editor, NoIndex, editor.take_out, index, index=index)
        self.unchanged(editor, NoEdit, editor.undo)


class Undoing(Case):
    def test_edits_after_undone_ones(self):
        editor = Editor()
        editor.add(A)
        editor.add(B)
        self.edits(editor, editor.undo, [A])
        editor.add(D)
        self.edits(editor, editor.undo, [A])
        self.edits(editor, editor.undo, [])
        self.unchanged(editor, NoEdit, editor.undo)
        self.assertEqual(self.edits(editor, lambda: editor.add(D), [D]), [0, 2])
        self.all_undone(editor, [[]])

    def test_edits_that_raise_do_not_count(self):
        editor = Editor()
        editor.add(A)
        self.raises(NoMember, editor.add, B, None)
        self.raises(NoIndex, editor.take_out, 1)
        self.raises(NoIndex, editor.exchange, 1, B)
        self.raises(TooMany, editor.add, *[B] * 100)
        self.all_undone(editor, [[]])

    def test_of_an_archive(self):
        editor = Editor.of(written([A]))
        editor.take_out(0)
        editor.add(B, D)
        self.all_undone(editor, [[A], []])

    def test_more_than_a_hundred_edits(self):
        editor = Editor()
        states = []
        for number in range(130):
            states.append(editor.members)
            if number % 3 == 2:
                editor.take_out(number % len(editor))
            else:
                editor.add(File(f"f{number}", bytes(number)))
        self.assertEqual(len(editor), 44)
        self.all_undone(editor, states)

    def test_any_edits(self):
        source = random.Random(5)
        for _ in range(12):
            editor = Editor()
            states = [[]]
            for _ in range(25):
                members = states[-1]
                choice = source.randrange(5)
                if choice == 0 and len(states) > 1:
                    states.pop()
                    self.edits(editor, editor.undo, states[-1])
                    continue
                index = source.randrange(len(members)) if members else 0
                fresh = source.choice([source.sample(MEMBERS, source.randrange(3)), any_members(source, 3)])
                if choice < 3 or not members:
                    states.append(members + fresh)
                    self.edits(editor, lambda: editor.add(*fresh), states[-1])
                elif choice == 3:
                    states.append(members[:index] + [D] + members[index + 1:])
                    self.edits(editor, lambda: editor.exchange(index, D), states[-1])
                else:
                    states.append(members[:index] + members[index + 1:])
                    self.edits(editor, lambda: editor.take_out(index), states[-1])
            self.all_undone(editor, states[:-1])


class Stopped(Case):
    """Appends of which the blocks are written one by one, the last one first."""

    def steps(self, old, new):
        editor = Editor.of(written(old))
        before = editor.archive
        written_blocks = editor.add(*new)
        after = editor.archive
        disk = blocks(before) + [bytes(512)] * (len(after) // 512 - len(before) // 512)
        for count, index in enumerate(reversed(written_blocks), 1):
            found = scan(b"".join(disk))[0]
            self.assertEqual([member for _, member in found], old)
            disk[index] = after[index * 512:index * 512 + 512]
            is_last = count == len(written_blocks)
            self.assertEqual([member for _, member in scan(b"".join(disk))[0]], old + new if is_last else old)
        self.assertEqual(b"".join(disk), after)
        self.assertEqual(scan(b"".join(disk))[1], None)

    def test_each_member(self):
        for old in ([], [A, B], [File("z", bytes(512))]):
            for member in MEMBERS:
                self.steps(old, [member])

    def test_several(self):
        self.steps([A], [B, D, LONG, File("z", bytes(2000)), Sparse("p", 5, (0, b"x"))])
        self.steps(MEMBERS[:5], MEMBERS)
        source = random.Random(9)
        for _ in range(50):
            self.steps(source.sample(MEMBERS, source.randrange(4)), source.sample(MEMBERS, source.randrange(1, 5)))

    def test_none(self):
        self.steps([A], [])


class Objects(Case):
    def test_equal_only_if_the_same(self):
        editor = Editor.of(written([A]))
        other = Editor.of(written([A]))
        self.assertEqual(editor, editor)
        self.assertFalse(editor == other)
        self.assertTrue(editor != other)
        self.assertFalse(Editor() == Editor())
        self.assertFalse(editor == [A])

    def test_two_editors_of_the_same_archive(self):
        data = written([A, B])
        one, other = Editor.of(data), Editor.of(data)
        one.add(D)
        other.take_out(0)
        self.holds(one, [A, B, D])
        self.holds(other, [B])
        one.undo()
        self.holds(one, [A, B])
        self.holds(other, [B])
        self.unchanged(one, NoEdit, one.undo)
        self.edits(other, other.undo, [A, B])

    def test_lists_that_are_returned(self):
        editor = Editor()
        editor.add(A, B).clear()
        editor.members.clear()
        editor.offsets.append(5)
        editor.members[0] = D
        editor.exchange(0, D).append(7)
        editor.take_out(1).append(8)
        editor.undo().append(9)
        self.holds(editor, [D, B])

    def test_members_that_change_later(self):
        # Neither what was passed nor what was returned is the editor's own.
        member = File("f", b"x")
        editor = Editor()
        editor.add(member, member)
        editor.exchange(1, member)
        member.name = "g"
        self.holds(editor, [File("f", b"x")] * 2)
        editor.members[0].name = "h"
        self.holds(editor, [File("f", b"x")] * 2)
        editor.undo()
        editor.members[1].data = b""
        self.holds(editor, [File("f", b"x")] * 2)

    def test_kinds_of_members(self):
        editor = Editor.of(archive(MEMBERS))
        self.assertEqual([type(member) for member in editor.members], [type(member) for member in MEMBERS])


if __name__ == "__main__":
    unittest.main()
