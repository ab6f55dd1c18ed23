"""[10] prices, with [3] and [5]."""

import unittest
from math import gcd

from drawing import Drawing, any_values, both_ways, caught, some_prices
from hitclocks.errors import BadNumber, BadPair, BadPrice, NotAhead
from hitclocks.prices import amid, is_ahead, is_price, meeting, price_of, worth

BIG = 10 ** 12 - 1
NOT_PRICES = [(0, 0), (2, 0), (0, 2), (2, 4), (-1, 1), (1, -1), (True, 0), (0, True), (False, 1), (1, False), [1, 0],
              (1,), (1, 0, 0), ("1", "0"), (None, 1), 1, "1:0", None, {1: 0}, (), ((1, 0), (0, 1))]
NOT_PAIRS = [(1,), (1, 2, 3), [1, 2], (True, 0), (0, False), (None, 0), ("a", 0), None, 5, "ab", {}, ((0, 0), 0)]


class Prices(unittest.TestCase):
    def test_is_price(self):
        for price in [(1, 0), (0, 1), (1, 1), (2, 3), (BIG, BIG - 1), (1, BIG)]:
            self.assertIs(is_price(price), True)
        for thing in NOT_PRICES:
            self.assertIs(is_price(thing), False, thing)
        for thing in any_values():
            self.assertIs(is_price(thing), thing == (1, 0) and isinstance(thing, tuple) and thing[0] is not True)

    def test_is_price_by_counting(self):
        for p in range(-2, 12):
            for q in range(-2, 12):
                right = p >= 0 and q >= 0 and (p, q) != (0, 0) and gcd(p, q) == 1
                self.assertIs(is_price((p, q)), right)

    def test_price_of(self):
        self.assertEqual(both_ways(self, price_of, p=4, q=6), (2, 3))
        self.assertEqual(price_of(0, 7), (0, 1))
        self.assertEqual(price_of(7, 0), (1, 0))
        self.assertEqual(price_of(BIG, BIG), (1, 1))
        for wrong in [-1, True, False, None, "1", (1,), [1]]:
            caught(self, BadNumber, {}, price_of, wrong, 1)
            caught(self, BadNumber, {}, price_of, 1, wrong)
        caught(self, BadNumber, {}, price_of, 0, 0)

    def test_is_ahead(self):
        prices = some_prices()
        for at, one in enumerate(prices):
            for behind, other in enumerate(prices):
                self.assertIs(is_ahead(one, other), at < behind)
        self.assertIs(both_ways(self, is_ahead, one=(1, 0), other=(0, 1)), True)
        for thing in NOT_PRICES:
            caught(self, BadPrice, {}, is_ahead, thing, (1, 0))
            caught(self, BadPrice, {}, is_ahead, (1, 0), thing)

    def test_worth(self):
        self.assertEqual(both_ways(self, worth, pair=(3, -4), price=(2, 3)), -6)
        self.assertEqual(worth((BIG, -BIG), (BIG, BIG - 1)), BIG)
        for thing in NOT_PAIRS:
            caught(self, BadPair, {}, worth, thing, (1, 0))
            caught(self, BadPair, {}, worth, thing, (2, 0))
        for thing in NOT_PRICES:
            caught(self, BadPrice, {}, worth, (1, 0), thing)

    def test_amid(self):
        self.assertEqual(both_ways(self, amid, one=(1, 0), other=(0, 1)), (1, 1))
        self.assertEqual(amid((3, 1), (1, 3)), (1, 1))
        prices = some_prices()
        for at, one in enumerate(prices):
            for behind, other in enumerate(prices):
                if at < behind:
                    between = amid(one, other)
                    self.assertTrue(is_price(between) and is_ahead(one, between) and is_ahead(between, other))
                else:
                    caught(self, NotAhead, {}, amid, one, other)
        for thing in NOT_PRICES:
            caught(self, BadPrice, {}, amid, thing, (0, 1))
            caught(self, BadPrice, {}, amid, (1, 0), thing)
            caught(self, BadPrice, {}, amid, (0, 1), thing)

    def test_meeting(self):
        self.assertEqual(both_ways(self, meeting, one=(2, 0), other=(0, 2)), (1, 1))
        self.assertEqual(meeting((0, 3), (2, 0)), (3, 2))
        self.assertEqual(meeting((1, 5), (1, 2)), (1, 0))
        self.assertEqual(meeting((5, 1), (2, 1)), (0, 1))
        self.assertIsNone(meeting((1, 1), (1, 1)))
        self.assertIsNone(meeting((2, 2), (1, 1)))
        for thing in NOT_PAIRS:
            caught(self, BadPair, {}, meeting, thing, (0, 0))
            caught(self, BadPair, {}, meeting, (0, 0), thing)

    def test_meeting_is_the_one_price_of_equal_worth(self):
        drawing = Drawing(1)
        for _ in range(400):
            one, other = drawing.pair(5), drawing.pair(5)
            price = meeting(one, other)
            self.assertEqual(price, meeting(other, one))
            for some in some_prices():
                same = worth(one, some) == worth(other, some)
                if one != other:
                    self.assertEqual(same, some == price)
            if price is not None:
                self.assertTrue(is_price(price))
                self.assertEqual(worth(one, price), worth(other, price))


if __name__ == "__main__":
    unittest.main()
