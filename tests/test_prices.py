"""Prices [5]."""

import unittest

from helping import Helping, strange_values
from loopstow.errors import BadNumber, BadPrice
from loopstow.prices import Prices

FAR = 10 ** 50


class PricesTest(Helping, unittest.TestCase):
    def test_properties(self):
        loads = {"b": 3, "a": 1, "load": 0}
        prices = Prices(1, 9, loads)
        loads["a"] = 7
        self.same([prices.load, prices.store, prices.loads], [1, 9, {"a": 1, "b": 3, "load": 0}])
        self.same([prices.load_of(name) for name in ("a", "b", "c", "load", "store")], [1, 3, 1, 0, 1])
        prices.loads["a"] = 5
        prices.loads.clear()
        self.same(prices.loads, {"a": 1, "b": 3, "load": 0})
        self.same([Prices(0, 0).loads, Prices(store=0, load=9).load, Prices(2, 3, {}).loads], [{}, 9, {}])
        self.same(Prices.MOST, 9)
        for name in ("load", "store", "loads"):
            self.assertIsInstance(vars(Prices)[name], property)
        for name in ("load_of", "__mul__", "__rmul__", "__eq__"):
            self.assertIn(name, vars(Prices))

    def test_no_price(self):
        for value in [*strange_values(), 10, -1, "1"]:
            if value.__class__ is int and 0 <= value <= 9:
                continue
            self.refused(BadPrice, lambda: Prices(value, None, {"a": "x"}), value)
            self.refused(BadPrice, lambda: Prices(0, value, {"a": "x"}), value)
            self.refused(BadPrice, lambda: Prices(0, 9, {"c": "x", "b": value, "a": 9}), value)

    def test_times(self):
        prices = Prices(1, 2, {"a": 3, "b": 1})
        for product in (prices * 3, 3 * prices):
            self.same([product.load, product.store, product.loads], [3, 6, {"a": 9, "b": 3}])
        self.same([(0 * prices).loads, (prices * 0).store], [{"a": 0, "b": 0}, 0])
        self.assertEqual(1 * prices, prices)
        self.assertEqual(FAR * Prices(0, 0), Prices(0, 0))
        self.refused(BadPrice, lambda: 5 * prices, 10)
        self.refused(BadPrice, lambda: 4 * prices, 12)
        self.refused(BadPrice, lambda: Prices(2, 3) * 5, 10)
        self.refused(BadPrice, lambda: Prices(0, 3) * FAR, 3 * FAR)
        self.refused(BadPrice, lambda: 4 * Prices(0, 0, {"c": 4, "b": 3}), 12)
        for value in strange_values():
            self.refused(BadNumber, lambda: prices * value, value)
            if not isinstance(value, Prices):
                self.refused(BadNumber, lambda: value * prices, value)

    def test_equal(self):
        self.same(Prices(1, 2) == Prices(1, 2, {"a": 1, "b": 1}), True)
        self.same(Prices(1, 2, {"a": 1, "b": 5}) == Prices(1, 2, {"b": 5, "c": 1}), True)
        prices = [
            Prices(1, 2), Prices(2, 1), Prices(1, 1), Prices(1, 2, {"a": 2}), Prices(1, 2, {"b": 2}),
            Prices(1, 2, {"a": 3}), Prices(1, 2, {"a": 2, "b": 2}), Prices(2, 2, {"a": 2, "b": 1}), Prices(0, 0),
        ]
        for index, one in enumerate(prices):
            for other_index, other in enumerate(prices):
                self.same([one == other, one != other], [index == other_index, index != other_index])
            for value in (None, (1, 2), 1, {}):
                self.same(one == value, False)


if __name__ == "__main__":
    unittest.main()
