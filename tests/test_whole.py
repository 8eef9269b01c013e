"""Points [2] and [3] over the whole program: parameters, values, errors, and what the modules promise together."""

import copy
import importlib
import inspect
import random
import unittest

from model_houses import any_house, any_members
from samples import MEMBERS, archive
from tarhouse import errors
from tarhouse.blobs import blob
from tarhouse.checker import shows
from tarhouse.comparing import alike, parting_house
from tarhouse.desk import Desk
from tarhouse.editing import Editor
from tarhouse.effects import effect
from tarhouse.following import followed, strays
from tarhouse.headers import checksum, header
from tarhouse.houses import House
from tarhouse.links import dangers, resolved, rings
from tarhouse.members import Directory, File, Link, Sparse, Symlink, is_name, is_path
from tarhouse.reading import Reader, each, read, scan
from tarhouse.texts import read_member, show_member
from tarhouse.unpacking import unpacked, walked
from tarhouse.updates import fewest_blocks, least_update, update_paper
from tarhouse.writing import Writer, blocks_of, written

A = File("a/b", blob([1, 2, 3]), time=7)
B = Link("c", "a/b")
D = Directory("a", mode=448)
SIGNATURES = {
    "blobs": {"blob": "(numbers)"},
    "members": {
        "File": "(name, data, *, mode=420, time=0)", "Sparse": "(name, size, *pieces, mode=420, time=0)",
        "Directory": "(name, *, mode=493, time=0)", "Symlink": "(name, target, *, mode=511, time=0)",
        "Link": "(name, target, *, mode=420, time=0)", "File.content": "(self)", "Sparse.content": "(self)",
        "is_name": "(thing)", "is_path": "(thing)",
    },
    "headers": {"header": "(kind, name, *, mode=0, size=0, time=0, target='')", "checksum": "(block)"},
    "writing": {
        "written": "(members)", "blocks_of": "(member)", "Writer": "()", "Writer.add": "(self, *members)",
        "Writer.close": "(self)", "Writer.fill": "(self, function)",
    },
    "reading": {
        "scan": "(data, *, offset=0)", "read": "(data)", "each": "(data, *, offset=0)", "Reader": "()",
        "Reader.feed": "(self, data)", "Reader.finish": "(self)",
    },
    "houses": {
        "House": "()", "House.of": "(entries)", "House.entries": "(self)", "House.sharers": "(self, path)",
        "House.thing_at": "(self, path)", "House.has": "(self, path)",
    },
    "unpacking": {"unpacked": "(house, members)", "walked": "(house, members)"},
    "following": {"followed": "(house, members)", "strays": "(house, members)"},
    "effects": {"effect": "(members)"},
    "comparing": {"alike": "(one, other)", "parting_house": "(one, other)"},
    "links": {"resolved": "(house, name)", "rings": "(house)", "dangers": "(members)"},
    "editing": {
        "Editor": "()", "Editor.of": "(data)", "Editor.add": "(self, *members)",
        "Editor.exchange": "(self, index, member)", "Editor.take_out": "(self, index)", "Editor.undo": "(self)",
    },
    "updates": {
        "fewest_blocks": "(members, house)", "least_update": "(members, house)", "update_paper": "(members, house)",
    },
    "checker": {"shows": "(members, house, thing, number)"},
    "texts": {"show_member": "(member)", "read_member": "(text)"},
    "desk": {"Desk": "()", "Desk.say": "(self, command)"},
    "errors": {
        "NoBlob": "(numbers)", "NoData": "(thing)", "NoBlock": "(thing)", "NoMember": "(thing)", "NoHouse": "(given)",
        "NoName": "(name)", "NoMode": "(mode)", "NoSize": "(size)", "NoPieces": "(pieces)", "Torn": "(offset)",
        "Wrong": "(offset, field)", "NoText": "(text)", "NoCommand": "(command)", "NoTime": "(time)",
        "TooMany": "(limit)", "Closed": "()", "Refused": "(index, word)", "NoOffset": "(offset)", "NoIndex": "(index)",
        "NoPath": "(path)", "NoEdit": "()",
    },
}
LINKED = unpacked(House(), [A, B, D, Symlink("s", "s"), Symlink("t", "a")])
# Calls whose results are lists or dicts, or have such within them.
CALLS = [
    lambda members: scan(archive(members)), lambda members: read(archive(members)),
    lambda members: Writer().add(*members), lambda members: Reader().feed(archive(members)),
    lambda members: LINKED.entries(), lambda members: LINKED.sharers("c"), lambda members: unpacked(LINKED, members).entries(),
    lambda members: strays(House(), [D, Symlink("u", "a"), File("u/f", b"")]), lambda members: effect(members),
    lambda members: rings(LINKED), lambda members: dangers([Symlink("a", "x"), *members]),
    lambda members: Editor().add(*members), lambda members: Editor.of(archive(members)).members,
    lambda members: Editor.of(archive(members)).offsets, lambda members: Editor.of(archive(members)).take_out(0),
    lambda members: Editor.of(archive(members)).exchange(0, B), lambda members: fewest_blocks(members, LINKED),
    lambda members: least_update([], LINKED), lambda members: update_paper(members, LINKED),
]


def emptied(value):
    """Change whatever can be changed in a value."""
    if isinstance(value, (list, tuple)):
        for part in value:
            emptied(part)
    elif isinstance(value, dict):
        for part in list(value.values()):
            emptied(part)
    if isinstance(value, (list, dict)):
        value.clear()


def things_within(value):
    """The lists and dicts in a value."""
    found = [value] if isinstance(value, (list, dict)) else []
    parts = value if isinstance(value, (list, tuple)) else value.values() if isinstance(value, dict) else []
    for part in parts:
        found += things_within(part)
    return found


class Parameters(unittest.TestCase):
    def test_names_and_defaults(self):
        for stem, signatures in SIGNATURES.items():
            module = importlib.import_module(f"tarhouse.{stem}")
            for name, expected in signatures.items():
                found = module
                for part in name.split("."):
                    found = getattr(found, part)
                with self.subTest(module=stem, name=name):
                    self.assertEqual(str(inspect.signature(found)), expected)
                    self.assertEqual(found.__module__, module.__name__)

    def test_by_the_names_in_another_order(self):
        house = House()
        self.assertEqual(unpacked(members=[A], house=house), unpacked(house, [A]))
        self.assertEqual(followed(members=[A], house=house), unpacked(house, [A]))
        self.assertEqual(strays(members=[A], house=house), [])
        self.assertEqual(list(walked(members=[A], house=house)), [unpacked(house, [A])])
        self.assertEqual(list(each(offset=1024, data=written(members=[A, B]))), [B])
        self.assertEqual(scan(offset=0, data=written([A])), scan(written([A])))
        self.assertEqual(header(target="t", mode=1, name="n", kind="2"), header("2", "n", mode=1, target="t"))
        self.assertEqual(File(time=1, data=b"", name="f"), File("f", b"", time=1))
        self.assertEqual(Sparse(size=4, name="f", time=1), Sparse("f", 4, time=1))
        self.assertEqual(Link(target="t", name="f", mode=2), Link("f", "t", mode=2))
        self.assertEqual(resolved(name="a", house=LINKED), ("path", "a"))
        self.assertIs(alike(other=[A], one=[A]), True)
        self.assertIsNone(parting_house(other=[A], one=[A]))
        self.assertEqual(errors.Wrong(field="name", offset=3).offset, 3)
        self.assertEqual(errors.Refused(word="name", index=3).index, 3)

    def test_attributes_of_classes(self):
        self.assertEqual([Writer.LIMIT, Editor.LIMIT], [100, 100])
        for kind, word in ((File, "file"), (Sparse, "sparse"), (Directory, "directory"), (Symlink, "symlink"), (Link, "link")):
            self.assertEqual(kind.KIND, word)


class Values(unittest.TestCase):
    def test_what_is_returned_is_new(self):
        members = [A, B, D]
        for number, call in enumerate(CALLS):
            with self.subTest(number=number):
                expected = copy.deepcopy(call(members))
                first, second = call(members), call(members)
                self.assertEqual(first, expected)
                ones, others = things_within(first), things_within(second)
                self.assertFalse(any(one is other for one in ones for other in others))
                emptied(first)
                self.assertEqual(second, expected)
                self.assertEqual(call(members), expected)
                self.assertEqual(members, [A, B, D])

    def test_what_is_returned_twice_by_one_object(self):
        editor = Editor.of(archive(MEMBERS))
        for told in (lambda: editor.members, lambda: editor.offsets, LINKED.entries, lambda: LINKED.sharers("c")):
            first = told()
            first.clear()
            self.assertNotEqual(told(), [])

    def test_what_is_passed_does_not_change(self):
        source = random.Random(61)
        for _ in range(60):
            house, members = any_house(source), any_members(source, 5)
            entries, given = house.entries(), list(members)
            for function in (unpacked, followed, strays, fewest_blocks, least_update, update_paper):
                try:
                    function(house, members) if function in (unpacked, followed, strays) else function(members, house)
                except errors.Refused:
                    pass
            effect(members)
            dangers(members)
            parting_house(members, given[1:])
            shows(members, house, {}, 0)
            self.assertEqual((house.entries(), members), (entries, given))

    def test_tuples_of_members(self):
        source = random.Random(62)
        for _ in range(60):
            house, members = any_house(source), any_members(source, 4)
            for function in (effect, dangers, written):
                self.assertEqual(function(members), function(tuple(members)))
            self.assertEqual(strays(house, members), strays(house, tuple(members)))
            self.assertEqual(fewest_blocks(members, house), fewest_blocks(tuple(members), house))
            self.assertEqual(update_paper(members, house), update_paper(tuple(members), house))

    def test_what_was_returned_may_be_passed(self):
        # A house of any size, and members of an archive of any size.
        deep = "d/" * 124 + "d"
        house = parting_house([Link("a", deep)], [File("/", b"")])
        self.assertEqual(len(house), 125)
        kept, added = least_update([], house)
        self.assertEqual(unpacked(House(), added), house)
        self.assertEqual(fewest_blocks([], house), [sum(blocks_of(member) for member in added)])
        many = [File(f"f{number}", b"") for number in range(100)]
        members = Editor.of(written(many)).members
        self.assertEqual(len(effect(members)), 100)
        self.assertIs(alike(members, members[::-1]), True)
        self.assertEqual(read_member(show_member(MEMBERS[9])), MEMBERS[9])


class Together(unittest.TestCase):
    def test_what_is_written_is_read(self):
        source = random.Random(63)
        for _ in range(50):
            members = source.sample(MEMBERS, source.randrange(8)) + any_members(source, 4)
            self.assertEqual(read(written(members)), members)
            self.assertEqual([read_member(show_member(member)) for member in members], members)

    def test_alike_lists_leave_equal_houses(self):
        source = random.Random(64)
        for _ in range(200):
            one, other = any_members(source, 3), any_members(source, 3)
            house = parting_house(one, other)
            self.assertEqual(alike(one, other), effect(one) == effect(other))
            self.assertEqual(house is None, alike(one, other))
            for tree in [any_house(source, 0.1), House()] + ([house] if house is not None else []):
                results = []
                for members in (one, other):
                    try:
                        results.append(unpacked(tree, members))
                    except errors.Refused:
                        results.append(None)
                if house is None:
                    self.assertEqual(*results)
                elif tree is house:
                    self.assertNotEqual(*results)

    def test_updates_lead_to_what_other_members_leave(self):
        source = random.Random(65)
        updates = 0
        for _ in range(150):
            members, more = any_members(source, 3), any_members(source, 3)
            try:
                house = unpacked(House(), members + more)
            except errors.Refused:
                continue
            kept, added = least_update(members, house)
            self.assertEqual(unpacked(House(), members[:kept] + added), house)
            number = sum(blocks_of(member) for member in added)
            found = [blocks for blocks in fewest_blocks(members, house) if blocks is not None]
            self.assertEqual(number, min(found))
            paper = update_paper(members, house)
            self.assertEqual([shows(members, house, paper, number + more) for more in (-1, 0, 1)], [True, True, False])
            updates += number > 0
        self.assertGreater(updates, 20)

    def test_a_desk_does_what_the_modules_do(self):
        desk, editor = Desk(), Editor()
        for member in (A, B, D):
            desk.say(f"append {show_member(member)}")
            editor.add(member)
        house = unpacked(House(), editor.members)
        self.assertEqual(desk.say("unpack"), str(len(house)))
        self.assertEqual(desk.say("resolve c"), " ".join(resolved(house, "c")))
        self.assertEqual(int(desk.say("archive")) * 512, len(editor.archive))
        self.assertEqual(checksum(editor.archive[:512]), checksum(written([A])[:512]))

    def test_names_and_paths(self):
        for member in MEMBERS:
            self.assertTrue(is_name(member.name))
            self.assertEqual(effect([member]) is not None, is_path(member.name) and
                             (member.KIND != "link" or is_path(member.target)))


if __name__ == "__main__":
    unittest.main()
