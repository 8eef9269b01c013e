"""The examples of the document, module by module, give what they say."""

import doctest
import unittest

from tarhouse.errors import Refused
from tarhouse.houses import House
from tarhouse.members import Directory
from tarhouse.unpacking import unpacked

DEFINITIONS = """
>>> from tarhouse.blobs import blob
>>> from tarhouse.houses import House
>>> from tarhouse.members import Directory, File, Link, Sparse, Symlink
>>> A = File("a/b", blob([1, 2, 3]), time=7)
>>> B = Link("c", "a/b")
>>> D = Directory("a", mode=448)
"""
MEMBERS = """
>>> from tarhouse.members import is_name, is_path
>>> [A == File("a/b", blob([1, 2, 3]), time=7, mode=420), A == B, list(Sparse("s", 5, (1, blob([9]))).content())]
[True, False, [0, 9, 0, 0, 0]]
>>> [is_name("/x..y//"), is_path("a/..b"), is_path("a/.."), is_path("a//b"), is_path("/a")]
[True, True, False, False, False]
>>> A
File('a/b')
"""
HEADERS = """
>>> from tarhouse.headers import checksum, header
>>> h = header("5", "ab", mode=448)
>>> [len(h), list(h[:4]), list(h[100:108]), checksum(h), list(h[148:157])]
[512, [97, 98, 0, 0], [48, 48, 48, 48, 55, 48, 48, 0], 3230, [48, 48, 54, 50, 51, 54, 0, 32, 53]]
"""
WRITING = """
>>> from tarhouse.writing import Writer, blocks_of, written
>>> [len(written([A, B, D])), blocks_of(A), blocks_of(Symlink("s" * 101, "t" * 101)), len(written([]))]
[3072, 2, 5, 1024]
>>> w = Writer()
>>> [w.add(A, D), w.add(B), len(w), w.close() == written([A, D, B])]
[[0, 1024], [1536], 3, True]
>>> Writer().fill(lambda writer: writer.add(A)) == written([A])
True
"""
READING = """
>>> from tarhouse.reading import Reader, each, read, scan
>>> from tarhouse.writing import written
>>> Z = written([A, B])
>>> [scan(Z), scan(Z[:1100])[1], scan(Z, offset=1024)[0] == [(1024, B)]]
[([(0, File('a/b')), (1024, Link('c'))], None), ('torn', 1024), True]
>>> [scan(blob([255]) + Z[1:])[1], scan(Z[:600] + blob([1]) + Z[601:])[1], read(Z) == [A, B]]
[('wrong', 0, 'name'), ('wrong', 0, 'padding'), True]
>>> list(each(Z)) == [A, B]
True
>>> r = Reader()
>>> [r.feed(Z[:1000]), r.waiting, len(r.feed(Z[1000:])), r.is_ended, r.finish()]
[[], 1000, 2, True, 2]
"""
UNPACKING = """
>>> from tarhouse.following import followed, strays
>>> from tarhouse.unpacking import unpacked, walked
>>> H = unpacked(House(), [A, B, D])
>>> [H.entries()[0], H.entries()[2], H.thing_at("c") == H.thing_at("a/b"), H.sharers("c"), len(H), H.has("a/x")]
[('a', ('directory', 448, 0)), ('c', ('link', 'a/b')), True, ['a/b', 'c'], 3, False]
>>> strays(House(), [D, Symlink("s", "a/."), File("s/f", blob([]))])
[(2, 'a/f')]
>>> [len(house) for house in walked(House(), [A, B, D])]
[2, 3, 3]
>>> followed(House(), [A, B, D]) == H
True
"""
EFFECTS = """
>>> from tarhouse.comparing import alike, parting_house
>>> from tarhouse.effects import effect
>>> effect([D, B]) == [('a', ('directory',), ('directory', 448, 0)), ('a/b', ('file',), ('same',)),
...     ('c', ('absent', 'file', 'symlink'), ('moved', 'a/b'))]
True
>>> [effect([A, File("a", blob([]))]), alike([A, A], [A]), len(parting_house([Directory("x")], [])), \
len(parting_house([B], [A, B]))]
[None, True, 0, 0]
"""
SYMLINKS = """
>>> from tarhouse.links import dangers, resolved, rings
>>> S = House.of([("d", ("directory", 493, 0)), ("d/s", ("symlink", "../t", 511, 0)), ("t", ("symlink", "d", 511, 0))])
>>> [resolved(S, "d/s"), resolved(S, "t/s/."), resolved(S, "d/../.."), rings(S)]
[('path', 'd'), ('path', 'd'), ('out',), []]
>>> dangers([Symlink("a", "a/x"), Symlink("b", "/"), File("b", blob([]))])
[(0, 'ring'), (1, 'hidden')]
"""
UPDATES = """
>>> from tarhouse.checker import shows
>>> from tarhouse.updates import fewest_blocks, least_update, update_paper
>>> W = House.of([("a", ("directory", 493, 0)), ("a/b", ("file", blob([1, 2, 3]), 420, 7)), ("c", ("link", "a/b"))])
>>> [fewest_blocks([A], W), least_update([A], W)[0], fewest_blocks([A, D, File("x", blob([]))], W)]
[[3, 1], 1, [3, 1, 2, None]]
>>> [shows([A], W, update_paper([A], W), number) for number in (1, 2)]
[True, False]
"""
TEXTS = """
>>> from tarhouse.texts import read_member, show_member
>>> [show_member(A), show_member(Sparse("s", 5, (1, blob([9]))))]
['file a/b 0644 7 x010203', 'sparse s 0644 0 5 1:x09']
>>> read_member('file a/b 0644 7 x010203') == A
True
"""


class Examples(unittest.TestCase):
    def check(self, text):
        examples = doctest.DocTestParser().get_doctest(DEFINITIONS + text, {}, "document", None, 0)
        result = doctest.DocTestRunner().run(examples)
        self.assertEqual(result.failed, 0)
        self.assertGreater(result.attempted, 7)

    def test_members(self):
        self.check(MEMBERS)

    def test_headers(self):
        self.check(HEADERS)

    def test_writing(self):
        self.check(WRITING)

    def test_reading(self):
        self.check(READING)

    def test_unpacking(self):
        self.check(UNPACKING)

    def test_a_refusal(self):
        house = House.of([("a", ("directory", 448, 0)), ("c", ("file", b"", 420, 0))])
        with self.assertRaises(Refused) as caught:
            unpacked(house, [Directory("a", mode=448), Directory("c")])
        self.assertEqual(vars(caught.exception), {"index": 1, "word": "occupied"})

    def test_effects(self):
        self.check(EFFECTS)

    def test_symlinks(self):
        self.check(SYMLINKS)

    def test_updates(self):
        self.check(UPDATES)

    def test_texts(self):
        self.check(TEXTS)


if __name__ == "__main__":
    unittest.main()
