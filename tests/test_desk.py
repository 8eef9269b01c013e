"""Point [19] and the section "The desk"."""

import random
import unittest

from model_houses import any_members
from samples import ANY, MEMBERS, Raising
from tarhouse.desk import Desk
from tarhouse.editing import Editor
from tarhouse.errors import NoCommand, NoEdit, NoIndex, Refused, TooMany
from tarhouse.houses import House
from tarhouse.links import dangers, resolved
from tarhouse.members import Directory, File, Link, Symlink
from tarhouse.texts import show_member
from tarhouse.unpacking import unpacked

FILE = "file a/b 0644 7 x010203"
LINK = "link c 0644 0 a/b"
DIRECTORY = "directory a 0700 0"
SYMLINK = "symlink s 0777 0 a/../s"
A = File("a/b", b"\x01\x02\x03", time=7)
NO_MEMBERS = ["", " ", "x", "file", "file f 0644 0", "file f 0644 0 x ", " file f 0644 0 x", "file  f 0644 0 x",
              "File f 0644 0 x", "file F 0644 0 x", "file f 0644 0 xAA", "file f 8000 0 x", "directory d 0755 0 0"]
NO_INDICES = ["", "-1", "+1", "00", "01", "x", "1.0", "0x0", "0_1", "9" * 61, "0" * 61, "None", "True", "\u0660"]
NO_NAMES = ["", " ", "A", "a b", "a:", "n" * 251, "a\n", "\u0660"]


def desk_after(*commands):
    desk = Desk()
    for command in commands:
        desk.say(command)
    return desk


class Case(Raising):
    def setUp(self):
        self.desk = Desk()

    def says(self, *pairs):
        for command, answer in pairs:
            told = self.desk.say(command)
            self.assertEqual(told, answer, command)
            self.assertIs(type(told), str)

    def unchanged(self, error, said, **fields):
        """Check that a command raises an error, and that nothing changes then."""
        before = self.state()
        self.raises(error, self.desk.say, said, **fields)
        self.assertEqual(self.state(), before)

    def state(self):
        return [self.desk.say(command) for command in ("list", "archive", "tree", "dangers")]


class Edits(Case):
    def test_append(self):
        self.says((f"append {FILE}", "0 1 2 3"), (f"append {LINK}", "2 4"), ("list", f"{FILE}; {LINK}"), ("archive", "5"))

    def test_replace(self):
        self.says((f"append {FILE}", "0 1 2 3"), (f"append {LINK}", "2 4"), (f"replace 1 {DIRECTORY}", "2"),
                  ("list", f"{FILE}; {DIRECTORY}"), (f"replace 1 {DIRECTORY}", "-"), (f"replace 0 {LINK}", "0 1 2"),
                  ("list", f"{LINK}; {DIRECTORY}"), ("archive", "4"))

    def test_remove(self):
        self.says((f"append {FILE}", "0 1 2 3"), (f"append {LINK}", "2 4"), ("remove 0", "0 1 2"), ("list", LINK),
                  ("remove 0", "0"), ("list", "-"), ("archive", "2"))

    def test_undo(self):
        self.says((f"append {FILE}", "0 1 2 3"), ("undo", "0 1"), ("list", "-"), (f"append {FILE}", "0 1 2 3"),
                  (f"replace 0 {LINK}", "0 1"), ("undo", "0 1 3"), ("list", FILE), ("remove 0", "0 1"), ("undo", "0 1 2 3"),
                  ("list", FILE), (f"replace 0 {FILE}", "-"), ("undo", "-"), ("undo", "0 1"))
        self.unchanged(NoEdit, "undo")

    def test_undo_takes_back_edits_only(self):
        self.says((f"append {FILE}", "0 1 2 3"), ("unpack", "2"), ("undo", "0 1"), ("tree", "a directory; a/b file"),
                  ("empty", "ok"))
        self.unchanged(NoEdit, "undo")

    def test_indices(self):
        self.desk = desk_after(f"append {FILE}", f"append {LINK}")
        for index in (2, 3, 10, 10 ** 59, 10 ** 60 - 1):
            self.unchanged(NoIndex, f"remove {index}", index=index)
            self.unchanged(NoIndex, f"replace {index} {FILE}", index=index)
        self.says(("remove 1", "2"), ("remove 0", "0 1"))
        self.unchanged(NoIndex, "remove 0", index=0)

    def test_too_many(self):
        for number in range(100):
            self.desk.say(f"append directory d{number} 0755 0")
        self.says(("archive", "102"))
        self.unchanged(TooMany, f"append {FILE}", limit=100)
        self.says(("replace 99 directory e 0755 0", "99"), ("remove 5", " ".join(map(str, range(5, 100)))),
                  (f"append {DIRECTORY}", "99 101"))

    def test_each_member(self):
        editor = Editor()
        for member in MEMBERS:
            expected = " ".join(str(number) for number in editor.add(member))
            self.says((f"append {show_member(member)}", expected))
        self.says(("list", "; ".join(show_member(member) for member in MEMBERS)),
                  ("archive", str(len(editor.archive) // 512)))


class Houses(Case):
    def test_without_anything(self):
        self.says(("list", "-"), ("archive", "2"), ("tree", "-"), ("dangers", "-"), ("unpack", "0"), ("empty", "ok"),
                  ("tree", "-"), ("resolve .", "path"), ("resolve a", "missing"))
        self.unchanged(NoEdit, "undo")

    def test_unpack_and_tree(self):
        self.says((f"append {FILE}", "0 1 2 3"), ("tree", "-"), ("unpack", "2"), ("tree", "a directory; a/b file"),
                  (f"append {LINK}", "2 4"), ("tree", "a directory; a/b file"), ("unpack", "3"),
                  ("tree", "a directory; a/b file; c link"), (f"append {SYMLINK}", "3 5"), ("unpack", "4"),
                  ("tree", "a directory; a/b file; c link; s symlink"), ("empty", "ok"), ("tree", "-"), ("unpack", "4"))

    def test_the_house_stays_as_it_is(self):
        self.says((f"append {FILE}", "0 1 2 3"), ("unpack", "2"), ("remove 0", "0 1"), ("unpack", "2"),
                  (f"append {SYMLINK}", "0 2"), ("unpack", "3"), ("tree", "a directory; a/b file; s symlink"))

    def test_a_least_path_that_comes_later(self):
        self.says(("append file b 0644 0 x", "0 2"), ("append link a 0644 0 b", "1 3"), ("unpack", "2"),
                  ("tree", "a file; b link"))

    def test_refused(self):
        self.says((f"append {FILE}", "0 1 2 3"), ("unpack", "2"), ("append file x 0644 0 x", "2 4"),
                  ("append directory a/b 0755 0", "3 5"))
        self.unchanged(Refused, "unpack", index=2, word="occupied")
        self.says(("tree", "a directory; a/b file"), ("undo", "3"), ("unpack", "3"),
                  ("append link y 0644 0 z", "3 5"))
        self.unchanged(Refused, "unpack", index=2, word="target")
        self.says(("replace 2 directory a/ 0755 0", "3"))
        self.unchanged(Refused, "unpack", index=2, word="name")
        self.says(("replace 2 file x/y 0644 0 x", "3"))
        self.unchanged(Refused, "unpack", index=2, word="parent")
        self.says(("replace 2 file a 0644 0 x", "3"))
        self.unchanged(Refused, "unpack", index=2, word="directory")

    def test_resolve(self):
        self.desk = desk_after(f"append {FILE}", "append symlink s 0777 0 a/.", "append symlink r 0777 0 r",
                               "append symlink o 0777 0 ..", "append symlink m 0777 0 x", "append symlink w 0777 0 s/..")
        self.says(("resolve a", "missing"), ("unpack", "7"))
        self.says(("resolve a", "path a"), ("resolve s", "path a"), ("resolve s/b", "path a/b"), ("resolve r", "ring"),
                  ("resolve r/..", "ring"), ("resolve o", "out"), ("resolve m", "missing"), ("resolve w", "path"),
                  ("resolve ./.", "path"), ("resolve /", "out"), ("resolve s/../s//b", "path a/b"), ("resolve ..", "out"))

    def test_dangers(self):
        self.desk = desk_after("append symlink a 0777 0 a/x", "append symlink b 0777 0 /", "append file b 0644 0 x")
        self.says(("dangers", "0:ring 1:hidden"), ("append symlink m 0777 0 z", "3 5"),
                  ("dangers", "0:ring 1:hidden 3:missing"), ("append link l 0644 0 z", "4 6"),
                  ("dangers", "1:hidden 4:refused"), ("append directory d/ 0755 0", "5 7"), ("dangers", "1:hidden 5:name"))

    def test_dangers_are_told_of_the_empty_house(self):
        self.says(("append file t 0644 0 x", "0 2"), ("unpack", "1"), ("undo", "0"), ("append symlink s 0777 0 t", "0 2"),
                  ("dangers", "0:missing"), ("unpack", "2"), ("resolve s", "path t"), ("dangers", "0:missing"))


class NoCommands(Case):
    def none(self, *commands):
        """Check values that are no commands, for a desk with members, a house and edits."""
        self.desk = desk_after(f"append {FILE}", f"append {LINK}", "unpack")
        for command in commands:
            with self.subTest(command=command):
                self.unchanged(NoCommand, command, command=command)

    def test_no_strings(self):
        self.none(*[thing for thing in ANY if not isinstance(thing, str)])
        self.none(b"list", ["list"], ("list",), {"list": 1}, [], A)

    def test_no_words(self):
        self.none("", " ", "x", "help", "lists", "lis", "quit", "add", "exchange", "take_out", "say", "close", "-", "ok",
                  "0", FILE, "a/b", "resolved", "ring", "delete", "list;", "list; list")

    def test_spaces(self):
        for command in ("undo", "list", "archive", "unpack", "empty", "tree", "dangers"):
            self.none(command + " ", " " + command, command + "\n", command + "\t", "\t" + command, command + "  ")
        for command in (f"append {FILE}", f"replace 0 {FILE}", "remove 0", "resolve a"):
            self.none(command + " ", " " + command, command.replace(" ", "  "), command.replace(" ", "  ", 1),
                      command + "\n", command.replace(" ", "\t"), command.replace(" ", "\t", 1))

    def test_another_word(self):
        for command in ("undo", "list", "archive", "unpack", "empty", "tree", "dangers", f"append {FILE}",
                        f"replace 0 {FILE}", "remove 0", "resolve a"):
            for more in ("x", "0", "a", "list", "x00", FILE):
                self.none(f"{command} {more}")

    def test_words_left_out(self):
        self.none("append", "replace", "remove", "resolve", "append ", "replace ", "remove ", "resolve ", "replace 0",
                  "replace 0 ", f"replace {FILE}", f"remove {FILE}", f"append 0 {FILE}", f"replace  {FILE}")

    def test_capitals(self):
        for command in ("undo", "list", "archive", "unpack", "empty", "tree", "dangers", f"append {FILE}",
                        f"replace 0 {FILE}", "remove 0", "resolve a"):
            self.none(command.upper(), command.title(), command.capitalize(), command.swapcase())

    def test_no_members(self):
        for text in NO_MEMBERS:
            self.none(f"append {text}", f"replace 0 {text}")

    def test_no_indices(self):
        for index in NO_INDICES:
            self.none(f"remove {index}", f"replace {index} {FILE}")

    def test_no_names(self):
        for name in NO_NAMES:
            self.none(f"resolve {name}")

    def test_before_other_errors(self):
        # The index is none of the archive, and the member is none either.
        self.none("replace 7 x", "replace 7 file", "remove 07", "replace 00 x")
        self.desk = Desk()
        self.unchanged(NoCommand, "undo ")
        for number in range(100):
            self.desk.say(f"append directory d{number} 0755 0")
        self.unchanged(NoCommand, "append file f 0644 0 y")
        self.unchanged(NoIndex, f"replace 100 {FILE}", index=100)


class Desks(Case):
    def test_two_desks(self):
        one, other = Desk(), Desk()
        one.say(f"append {FILE}")
        one.say("unpack")
        self.assertEqual([other.say("list"), other.say("tree")], ["-", "-"])
        other.say(f"append {LINK}")
        other.say(f"append {SYMLINK}")
        one.say("empty")
        self.assertEqual([one.say("list"), other.say("list"), other.say("undo")], [FILE, f"{LINK}; {SYMLINK}", "1"])
        self.assertEqual(one.say("undo"), "0 1")
        self.raises(NoEdit, one.say, "undo")

    def test_by_the_name_of_the_parameter(self):
        self.assertEqual(Desk().say(command="list"), "-")

    def test_any_commands(self):
        source = random.Random(17)
        for _ in range(40):
            desk, editor, house = Desk(), Editor(), House()
            for _ in range(40):
                member = any_members(source, 1)[0]
                index = source.randrange(6)
                command, edit = source.choice([
                    (f"append {show_member(member)}", lambda: editor.add(member)),
                    (f"append {show_member(member)}", lambda: editor.add(member)),
                    (f"replace {index} {show_member(member)}", lambda: editor.exchange(index, member)),
                    (f"remove {index}", lambda: editor.take_out(index)),
                    ("undo", editor.undo),
                ])
                self.same(desk, command, lambda: " ".join(map(str, edit())))
                members = editor.members
                self.same(desk, "list", lambda: "; ".join(map(show_member, members)))
                self.same(desk, "dangers", lambda: " ".join(f"{at}:{word}" for at, word in dangers(members)))
                if source.random() < 0.2:
                    house = House() if self.same(desk, "empty", lambda: "ok") else house
                if self.same(desk, "unpack", lambda: str(len(unpacked(house, members)))):
                    house = unpacked(house, members)
                self.same(desk, "tree", lambda: "; ".join(f"{path} {thing[0]}" for path, thing in house.entries()))
                self.same(desk, f"resolve {member.name}", lambda: " ".join(resolved(house, member.name)).strip())

    def same(self, desk, command, told):
        """Check an answer, or the error; return whether there was an answer."""
        try:
            expected = told() or "-"
        except (NoIndex, NoEdit, Refused) as error:
            self.raises(type(error), desk.say, command, **vars(error))
            return False
        self.assertEqual(desk.say(command), expected)
        return True


if __name__ == "__main__":
    unittest.main()
