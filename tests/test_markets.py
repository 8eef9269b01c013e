"""The choice of files and its prices, on which updates and papers ([16], [17]) rest."""

import random
import unittest

from tarhouse.markets import Market


def greatest(rows, taken=()):
    """The greatest sum of savings: all choices are tried."""
    if not rows:
        return 0
    sums = [greatest(rows[1:], taken)]
    sums += [
        saving + greatest(rows[1:], taken + (file,)) for file, saving in rows[0].items() if file not in taken
    ]
    return max(sums)


class Markets(unittest.TestCase):
    def check(self, rows, files):
        """Check a market; `rows` has for each class its savings by files."""
        savings = {(taker, file): rows[taker][file] for taker in rows for file in rows[taker]}
        market = Market(list(rows), list(files), savings)
        self.assertEqual(market.total(), greatest(list(rows.values())))
        self.assertEqual(sorted(market.class_prices), sorted(rows))
        self.assertEqual(sorted(market.file_prices), sorted(files))
        prices = [*market.class_prices.values(), *market.file_prices.values()]
        self.assertTrue(all(type(price) is int and price >= 0 for price in prices))
        self.assertEqual(sum(prices), market.total())
        for taker in rows:
            for file in rows[taker]:
                self.assertGreaterEqual(market.class_prices[taker] + market.file_prices[file], rows[taker][file])
        self.assertEqual({file: taker for taker, file in market.chosen.items()}, market.takers)
        self.assertEqual(len(market.takers), len(market.chosen))
        self.assertEqual(sum(market.saving(*pair) for pair in market.chosen.items()), market.total())

    def test_small_ones(self):
        self.check({}, [])
        self.check({"c": {}}, [])
        self.check({}, ["f"])
        self.check({"c": {}}, ["f"])
        self.check({"c": {"f": 3}}, ["f"])
        self.check({"c": {"f": 3}, "d": {"f": 5}}, ["f"])
        self.check({"c": {"f": 5}, "d": {"f": 3}}, ["f"])
        self.check({"c": {"f": 5, "g": 4}, "d": {"f": 4}}, ["f", "g"])
        self.check({"c": {"f": 5, "g": 4}, "d": {"f": 4, "g": 1}, "e": {"g": 2}}, ["f", "g"])

    def test_savings_of_nothing_and_less(self):
        self.check({"c": {"f": 0, "g": -2}, "d": {"f": -1}}, ["f", "g"])

    def test_all_must_move(self):
        rows = {f"c{number}": {f"f{number}": 9, f"f{number + 1}": 9} for number in range(7)}
        rows["c9"] = {"f0": 1}
        self.check(rows, [f"f{number}" for number in range(8)])
        rows["c8"] = {"f0": 3}
        self.check(rows, [f"f{number}" for number in range(8)])

    def test_any_ones(self):
        source = random.Random(71)
        for _ in range(1500):
            files = [f"f{number}" for number in range(source.randrange(6))]
            most = source.choice([1, 2, 5, 30])
            rows = {
                f"c{number}": {file: source.randrange(-2, most + 1) for file in files if source.random() < 0.7}
                for number in range(source.randrange(6))
            }
            self.check(rows, files)


if __name__ == "__main__":
    unittest.main()
