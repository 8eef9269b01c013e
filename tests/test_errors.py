"""Points [2] and "Errors": the error classes."""

import unittest

from tarhouse import errors
from tarhouse.members import File

TABLE = {
    TypeError: {
        "NoBlob": ["numbers"],
        "NoData": ["thing"],
        "NoBlock": ["thing"],
        "NoMember": ["thing"],
        "NoHouse": ["given"],
    },
    ValueError: {
        "NoName": ["name"],
        "NoMode": ["mode"],
        "NoSize": ["size"],
        "NoPieces": ["pieces"],
        "Torn": ["offset"],
        "Wrong": ["offset", "field"],
        "NoText": ["text"],
        "NoCommand": ["command"],
    },
    OverflowError: {"NoTime": ["time"], "TooMany": ["limit"]},
    RuntimeError: {"Closed": [], "Refused": ["index", "word"]},
    IndexError: {"NoOffset": ["offset"], "NoIndex": ["index"]},
    KeyError: {"NoPath": ["path"]},
    LookupError: {"NoEdit": []},
}
ROWS = [
    (base, getattr(errors, name), fields)
    for base, classes in TABLE.items()
    for name, fields in classes.items()
]
VALUES = [
    0, -5, 10 ** 59, True, False, None, "", "a/b", b"", b"\x00\xff", [], (), {},
    [1, [2, ("x", {"k": [3]})]], (1, b"z"), {(1, 2): [4], "a": None},
    File("a", b"1"), [File("a", b"1")],
]


def attributes(error, fields):
    return [getattr(error, field) for field in fields]


class Classes(unittest.TestCase):
    def test_the_module_has_these_errors_and_no_others(self):
        found = {
            name for name, value in vars(errors).items()
            if isinstance(value, type) and issubclass(value, BaseException)
        }
        self.assertEqual(found, {name for classes in TABLE.values() for name in classes})

    def test_each_derives_directly_from_its_base_alone(self):
        for base, error, _ in ROWS:
            with self.subTest(error=error.__name__):
                self.assertEqual(error.__bases__, (base,))
                self.assertEqual(error.__module__, "tarhouse.errors")

    def test_none_is_caught_as_another(self):
        for _, one, _ in ROWS:
            for _, other, _ in ROWS:
                if one is not other:
                    self.assertFalse(issubclass(one, other), (one, other))


class Fields(unittest.TestCase):
    def test_by_position_in_order(self):
        for _, error, fields in ROWS:
            given = [f"value {k}" for k in range(len(fields))]
            with self.subTest(error=error.__name__):
                self.assertEqual(attributes(error(*given), fields), given)

    def test_by_name_in_any_order(self):
        for _, error, fields in ROWS:
            given = {field: f"value of {field}" for field in reversed(fields)}
            with self.subTest(error=error.__name__):
                made = error(**given)
                self.assertEqual(attributes(made, fields), [given[field] for field in fields])

    def test_any_values(self):
        for _, error, fields in ROWS:
            for value in VALUES:
                with self.subTest(error=error.__name__, value=value):
                    made = error(*[value for _ in fields])
                    for told in attributes(made, fields):
                        self.assertEqual(told, value)
                        self.assertIs(type(told), type(value))

    def test_exactly_these_fields(self):
        for _, error, fields in ROWS:
            with self.subTest(error=error.__name__):
                with self.assertRaises(TypeError):
                    error(*range(len(fields) + 1))
                with self.assertRaises(TypeError):
                    error(other=1)
                if fields:
                    with self.assertRaises(TypeError):
                        error()

    def test_raised_and_caught_as_the_base(self):
        for base, error, fields in ROWS:
            given = list(range(len(fields)))
            with self.subTest(error=error.__name__):
                with self.assertRaises(base) as caught:
                    raise error(*given)
                self.assertEqual(attributes(caught.exception, fields), given)

    def test_later_changes_to_an_argument_have_no_effect(self):
        for _, error, fields in ROWS:
            for k in range(len(fields)):
                inner = {"deep": [1]}
                value = [([inner],), "x"]
                given = [value if at == k else at for at in range(len(fields))]
                made = error(*given)
                inner["deep"].append(2)
                inner["more"] = 0
                value.append(3)
                with self.subTest(error=error.__name__, field=fields[k]):
                    self.assertEqual(getattr(made, fields[k]), [([{"deep": [1]}],), "x"])


if __name__ == "__main__":
    unittest.main()
