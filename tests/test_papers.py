"""Points [3] and [17]: `update_paper`, and `shows` of the checker."""

import ast
import random
import unittest
from pathlib import Path

from model_updates import N, any_kept, any_wanted, base_of, costs, fewest, saved, sharing
from samples import ANY
from tarhouse.blobs import blob
from tarhouse.checker import shows
from tarhouse.houses import House
from tarhouse.members import Directory, File, Link, Symlink
from tarhouse.updates import fewest_blocks, update_paper

MADE = ("directory", 493, 0)
LA = N["a"]


def put(path, data=b"1"):
    return File(path, data)


# A list of members and a house: two classes may take over two files of the base, a third class none.
MEMBERS = [put("a"), Link("b", "a"), put("c"), Link("d", "c")]
WANTED = House.of([
    ("a", ("file", b"1", 420, 0)), ("b", ("link", "c")), ("c", ("file", b"1", 420, 0)), ("d", ("link", "a")),
    ("e", ("file", b"5", 420, 0)),
])


def best_of(members, house):
    return min(number for number in fewest_blocks(members, house) if number is not None)


def by_the_words(members, house, paper, number):
    """Whether a dict of the right form is a paper that shows a number."""
    for many in range(len(members) + 1):
        base = base_of(members[:many], house)
        if base is None or paper[many] is None:
            if base is not None or paper[many] is not None:
                return False
            continue
        class_prices, file_prices = paper[many]
        if sorted(class_prices) != sorted(sharing(house)) or sorted(file_prices) != sorted(sharing(base)):
            return False
        prices = [*class_prices.values(), *file_prices.values()]
        for first in class_prices:
            for other in file_prices:
                saving = saved(base, house, first, other)
                if saving is not None and class_prices[first] + file_prices[other] < saving:
                    return False
        if min(prices, default=0) < 0 or costs(base, house) - sum(prices) < number:
            return False
    return True


def changed(paper, kept, place, key, price):
    """A paper with another price."""
    prices = [dict(part) for part in paper[kept]]
    prices[place][key] = price
    return {**paper, kept: tuple(prices)}


class Case(unittest.TestCase):
    def shown(self, members, house, paper, number):
        """Check that a paper shows a number and all lower ones, and not one more."""
        for lower in (number, number - 1, 0, -1, -(10 ** 59)):
            if lower <= number:
                self.assertIs(shows(members, house, paper, lower), True)
        for higher in (number + 1, number + 2, 10 ** 59):
            self.assertIs(shows(members, house, paper, higher), False)
        self.assertTrue(by_the_words(members, house, paper, number))

    def no_paper(self, thing, members=tuple(MEMBERS), house=WANTED):
        for number in (-(10 ** 59), -1, 0, 1):
            self.assertIs(shows(members, house, thing, number), False)


class Making(Case):
    def form(self, members, house):
        """Check the form of a paper, and that it shows the fewest blocks."""
        paper = update_paper(members, house)
        self.assertIs(type(paper), dict)
        self.assertEqual(list(paper), list(range(len(members) + 1)))
        for many in paper:
            base = base_of(members[:many], house)
            if base is None:
                self.assertIsNone(paper[many])
                continue
            self.assertIs(type(paper[many]), tuple)
            for prices, tree in zip(paper[many], (house, base), strict=True):
                self.assertIs(type(prices), dict)
                self.assertEqual(sorted(prices), sorted(sharing(tree)))
                self.assertTrue(all(type(price) is int and price >= 0 for price in prices.values()))
        self.shown(members, house, paper, best_of(members, house))
        return paper

    def test_ordinary_ones(self):
        self.form([], House())
        self.form(MEMBERS, WANTED)
        self.form(tuple(MEMBERS), WANTED)
        self.form([put("a")], House.of([("a", ("file", b"1", 420, 0)), ("b", ("link", "a"))]))
        self.form([put("a"), Directory("d")], House.of([("a", ("file", b"1", 420, 0))]))
        self.form([Symlink("s", "t")], House.of([("s", ("symlink", "u", 1, 1)), ("d", MADE)]))

    def test_all_prices_are_what_is_saved(self):
        for many, prices in self.form(MEMBERS, WANTED).items():
            paid = sum(sum(part.values()) for part in prices)
            self.assertEqual(costs(base_of(MEMBERS[:many], WANTED), WANTED) - paid, fewest(MEMBERS, WANTED)[many])

    def test_any_ones(self):
        source = random.Random(51)
        for _ in range(200):
            house = any_wanted(source, ["a", "b", "c", LA, N["b"], "f", "f/a"])
            self.form(any_kept(source, house, 8), house)

    def test_that_it_is_new(self):
        first = update_paper(MEMBERS, WANTED)
        first[1][0].clear()
        first[2][1].clear()
        first.clear()
        self.assertEqual(len(update_paper(house=WANTED, members=MEMBERS)), 5)
        self.form(MEMBERS, WANTED)


class Checking(Case):
    def setUp(self):
        self.paper = update_paper(MEMBERS, WANTED)
        self.best = best_of(MEMBERS, WANTED)

    def test_the_order_of_the_keys(self):
        paper = {}
        for key in reversed(self.paper):
            paper[key] = tuple(dict(reversed(part.items())) for part in self.paper[key])
        self.assertEqual(list(paper), [4, 3, 2, 1, 0])
        self.shown(MEMBERS, WANTED, paper, self.best)

    def test_by_the_names_of_the_parameters(self):
        self.assertIs(shows(number=self.best, thing=self.paper, house=WANTED, members=MEMBERS), True)

    def test_one_price_less(self):
        # Less than 0 is no price; and no price that is paid can be left out.
        for kept in self.paper:
            for place in (0, 1):
                for key, price in self.paper[kept][place].items():
                    paper = changed(self.paper, kept, place, key, price - 1)
                    self.assertIs(shows(MEMBERS, WANTED, paper, -100), by_the_words(MEMBERS, WANTED, paper, -100))
                    if price == 0:
                        self.no_paper(paper)
        self.no_paper({**self.paper, 4: ({"a": 0, "b": 0, "e": 0}, {"a": 0, "c": 0})})

    def test_other_prices_that_are_right(self):
        # The class of `a` and `d` saves two by the file at `a`, and by the one at `c` as well.
        self.shown(MEMBERS, WANTED, {**self.paper, 4: ({"a": 0, "b": 0, "e": 0}, {"a": 2, "c": 2})}, self.best)
        self.shown(MEMBERS, WANTED, {**self.paper, 4: ({"a": 2, "b": 2, "e": 0}, {"a": 0, "c": 0})}, self.best)
        self.shown(MEMBERS, WANTED, {**self.paper, 4: ({"a": 1, "b": 1, "e": 0}, {"a": 1, "c": 1})}, self.best)
        self.no_paper({**self.paper, 4: ({"a": 1, "b": 1, "e": 0}, {"a": 1, "c": 0})})
        self.no_paper({**self.paper, 4: ({"a": 0, "b": 9, "e": 9}, {"a": 1, "c": 9})})

    def test_great_prices(self):
        paper = changed(self.paper, 4, 0, "a", 10 ** 59)
        number = costs(base_of(MEMBERS, WANTED), WANTED) - sum(sum(part.values()) for part in paper[4])
        self.shown(MEMBERS, WANTED, paper, number)
        self.shown(MEMBERS, WANTED, changed(self.paper, 0, 0, "e", 3), self.best)
        self.assertIs(shows(MEMBERS, WANTED, changed(self.paper, 4, 0, "e", 1), self.best), False)
        self.assertIs(shows(MEMBERS, WANTED, changed(self.paper, 4, 0, "e", 1), self.best - 1), True)

    def test_keys_of_the_paper(self):
        for key in self.paper:
            self.no_paper({other: self.paper[other] for other in self.paper if other != key})
        for key in (5, -1, "0", None, "", b"", (0,), 10 ** 59):
            self.no_paper({**self.paper, key: self.paper[0]})
            self.no_paper({**self.paper, key: None})
            for other in self.paper:
                self.no_paper({(key if one == other else one): self.paper[one] for one in self.paper})

    def test_true_and_false_are_no_keys(self):
        for key in (0, 1):
            paper = {(bool(one) if one == key else one): self.paper[one] for one in self.paper}
            self.assertEqual(paper, self.paper)
            self.no_paper(paper)

    def test_keys_of_the_prices(self):
        for place in (0, 1):
            for key in self.paper[4][place]:
                prices = [dict(part) for part in self.paper[4]]
                del prices[place][key]
                self.no_paper({**self.paper, 4: tuple(prices)})
                for other in ("d", "x", "", 0, None, True, b"a", ("a",), key + "/"):
                    self.no_paper({**self.paper, 4: tuple(
                        {**part, other: 9} if at == place else part for at, part in enumerate(prices)
                    )})
                    self.no_paper(changed(self.paper, 4, place, other, 9))

    def test_prices_that_are_none(self):
        for place in (0, 1):
            for key in self.paper[4][place]:
                for price in [True, False, None, -1, -(10 ** 59), "1", "", b"1", [1], (1,), {}, put("a")]:
                    self.no_paper(changed(self.paper, 4, place, key, price))
                    # Where the prices of the others are great enough.
                    great = tuple({one: 9 for one in part} for part in self.paper[4])
                    self.no_paper(changed({**self.paper, 4: great}, 4, place, key, price))

    def test_prices_of_another_kind(self):
        one, other = self.paper[4]
        for thing in (None, [one, other], (one,), (one, other, {}), (), {}, one, (other, one), ({}, {}), 0, True, "",
                      (one, None), (None, other), (list(one.items()), other), (one, list(other)), [], put("a")):
            self.no_paper({**self.paper, 4: thing})

    def test_any_values(self):
        for thing in ANY + [[None] * 5, list(self.paper.values()), tuple(self.paper.items()), {0: self.paper}]:
            self.no_paper(thing)

    def test_numbers_that_are_none(self):
        for number in (True, False, None, "0", "", b"0", [0], (0,), {}, put("a")):
            self.assertIs(shows(MEMBERS, WANTED, self.paper, number), False)
            self.assertIs(shows([], House(), {0: ({}, {})}, number), False)
        self.shown([], House(), {0: ({}, {})}, 0)

    def test_nothing_that_is_passed_changes(self):
        paper = update_paper(MEMBERS, WANTED)
        shows(MEMBERS, WANTED, paper, self.best)
        self.assertEqual(paper, self.paper)


class Nones(Case):
    MEMBERS = [put("a"), put("x"), Link("y", "z")]
    HOUSE = House.of([("a", ("file", b"1", 420, 0))])
    PAPER = {0: ({"a": 0}, {}), 1: ({"a": 2}, {"a": 0}), 2: None, 3: None}

    def test_where_there_is_no_update(self):
        self.assertEqual(fewest_blocks(self.MEMBERS, self.HOUSE), [2, 0, None, None])
        self.shown(self.MEMBERS, self.HOUSE, self.PAPER, 0)
        self.shown(self.MEMBERS, self.HOUSE, update_paper(self.MEMBERS, self.HOUSE), 0)

    def test_a_none_too_much_or_too_little(self):
        for key in self.PAPER:
            for thing in (None, ({"a": 2}, {"a": 0}), ({"a": 2}, {}), ({}, {}), False, 0, ()):
                if thing != self.PAPER[key] and (key, thing) != (0, ({"a": 2}, {})):
                    self.no_paper({**self.PAPER, key: thing}, self.MEMBERS, self.HOUSE)

    def test_kept_numbers_without_prices_do_not_count(self):
        self.shown(self.MEMBERS[1:], self.HOUSE, {0: ({"a": 0}, {}), 1: None, 2: None}, 2)


class Anything(Case):
    def test_papers_that_are_changed_a_little(self):
        source = random.Random(53)
        right = 0
        for _ in range(150):
            house = any_wanted(source, ["a", "b", "c", LA, "f", "f/a"], 0.6)
            members = any_kept(source, house, 5)
            paper = update_paper(members, house)
            number = best_of(members, house)
            for _ in range(6):
                kept = source.choice([key for key in paper if paper[key] is not None])
                place = source.randrange(2)
                if paper[kept][place]:
                    key = source.choice(sorted(paper[kept][place]))
                    price = paper[kept][place][key] + source.choice([-2, -1, 1, 2])
                    paper = changed(paper, kept, place, key, price)
                for told in range(number - 4, number + 2):
                    expected = by_the_words(members, house, paper, told)
                    self.assertIs(shows(members, house, paper, told), expected)
                    right += expected
        self.assertGreater(right, 500)

    def test_the_document(self):
        wanted = House.of([("a", MADE), ("a/b", ("file", blob([1, 2, 3]), 420, 7)), ("c", ("link", "a/b"))])
        members = [File("a/b", blob([1, 2, 3]), time=7), Directory("a", mode=448), File("x", blob([]))]
        self.shown(members, wanted, update_paper(members, wanted), 1)
        self.shown(members, wanted, {
            0: ({"a/b": 0}, {}), 1: ({"a/b": 1}, {"a/b": 1}), 2: ({"a/b": 2}, {"a/b": 0}), 3: None,
        }, 1)


class WithoutSearch(unittest.TestCase):
    def test_the_checker_does_not_use_what_searches(self):
        folder = Path(__file__).resolve().parent.parent / "tarhouse"
        met, waiting = set(), ["checker"]
        while waiting:
            stem = waiting.pop()
            met.add(stem)
            for node in ast.parse((folder / f"{stem}.py").read_text()).body:
                if isinstance(node, ast.ImportFrom) and node.module.partition(".")[2] not in met:
                    waiting.append(node.module.partition(".")[2])
        self.assertEqual(met & {"markets", "updates"}, set())


if __name__ == "__main__":
    unittest.main()
