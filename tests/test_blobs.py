"""The section "Blobs": bytes objects from numbers."""

import unittest

from tarhouse.blobs import blob
from tarhouse.errors import NoBlob
from tarhouse.members import Directory


class Right(unittest.TestCase):
    def test_lists_and_tuples(self):
        self.assertEqual(blob([1, 2, 3]), b"\x01\x02\x03")
        self.assertEqual(blob((9, 0)), b"\x09\x00")
        self.assertEqual(blob([]), b"")
        self.assertEqual(blob(()), b"")

    def test_the_kind_of_value(self):
        for numbers in ([], [65], (66,)):
            self.assertIs(type(blob(numbers)), bytes)

    def test_every_byte(self):
        self.assertEqual(list(blob(list(range(256)))), list(range(256)))
        self.assertEqual(list(blob(tuple(range(255, -1, -1)))), list(range(255, -1, -1)))

    def test_many_bytes(self):
        self.assertEqual(blob([7] * 60000), b"\x07" * 60000)

    def test_by_name(self):
        self.assertEqual(blob(numbers=[5]), b"\x05")

    def test_the_argument_stays(self):
        numbers = [1, 2]
        made = blob(numbers)
        numbers.append(3)
        self.assertEqual(numbers, [1, 2, 3])
        self.assertEqual(made, b"\x01\x02")


class Wrong(unittest.TestCase):
    def check(self, thing):
        with self.subTest(thing=thing):
            with self.assertRaises(NoBlob) as caught:
                blob(thing)
            self.assertEqual(caught.exception.numbers, thing)
            self.assertIs(type(caught.exception.numbers), type(thing))

    def test_no_list_or_tuple(self):
        things = [None, True, 0, 3, "", "ab", b"", b"ab", {}, {1: 2}, Directory("a")]
        for thing in things:
            self.check(thing)

    def test_numbers_out_of_range(self):
        for number in (-1, 256, -10 ** 59, 10 ** 59):
            self.check([number])
            self.check((0, number))
            self.check([number, 0])

    def test_parts_that_are_no_integers(self):
        for part in (True, False, None, "1", b"1", [1], (1,), {}, Directory("a")):
            self.check([part])
            self.check((1, 2, part))

    def test_the_last_of_many(self):
        self.check([0] * 59999 + [256])

    def test_the_error_keeps_its_own_list(self):
        numbers = [1, [2]]
        with self.assertRaises(NoBlob) as caught:
            blob(numbers)
        numbers[1].append(3)
        numbers.append(4)
        self.assertEqual(caught.exception.numbers, [1, [2]])


if __name__ == "__main__":
    unittest.main()
