"""[11] fronts, with [3] and [5]."""

import unittest

from drawing import Drawing, any_values, both_ways, caught, some_prices
from hitclocks.errors import BadFront, BadNumber, BadPairs, BadPrice
from hitclocks.fronts import (any_times, at_price, corners_at, front_of, is_below, is_front, joined, repeated, summed)
from hitclocks.prices import amid, is_ahead, meeting, price_of, worth

ZERO = ("over", (1, 0), (0, 1), ((0, 0),))
INFINITE = float("inf")
RIGHT = [None, ("endless",), ("at", (1, 0), 5), ("at", (2, 3), -5), ZERO, ("over", (3, 2), (0, 1), ((0, 0),)),
         ("over", (1, 0), (0, 1), ((2, 0), (0, 2))), ("over", (2, 1), (1, 2), ((2, 0), (0, 2))),
         ("over", (1, 0), (0, 1), ((3, 0), (2, 2), (0, 3)))]
WRONG = [
    ("endless", 1), ["endless"], (), ("at",), ("at", (2, 0), 1), ("at", (1, 0), True), ("at", (1, 0), None),
    ("at", (True, 0), 1), ["at", (1, 0), 1], ("at", [1, 0], 1), ("at", (1, 0), 1, 1), ("over", (1, 0), (0, 1), ()),
    ("over", (0, 1), (1, 0), ((0, 0),)), ("over", (1, 1), (1, 1), ((0, 0),)), ("over", (1, 0), (0, 2), ((0, 0),)),
    ("over", (1, 0), (0, 1), [(0, 0)]), ("over", (1, 0), (0, 1), ([0, 0],)), ("over", (1, 0), (0, 1), ((False, 0),)),
    ("over", (1, 0), (0, 1), ((0, 2), (2, 0))), ("over", (1, 0), (0, 1), ((2, 0), (1, 1), (0, 2))),
    ("over", (1, 0), (0, 1), ((2, 0), (2, 0))), ("over", (1, 0), (0, 1), ((2, 0), (1, 0))),
    ("over", (1, 0), (1, 1), ((2, 0), (0, 2))), ("over", (1, 1), (0, 1), ((2, 0), (0, 2))),
    ("over", (1, 0), (0, 1), ((0, 0),), 1), ("over", (1, 0), (0, 1)), (None,), "endless", 0, False, {}, ("none",)]


def number(told):
    """What is told, as a number that compares."""
    if told is None:
        return -INFINITE
    return INFINITE if told == "endless" else told


def prices_of(*fronts):
    """Some prices, and all at which one of the fronts may change, with prices between."""
    prices = set(some_prices())
    pairs = []
    for front in fronts:
        if front is not None and front[0] == "at":
            prices.add(front[1])
        if front is not None and front[0] == "over":
            prices |= {front[1], front[2]}
            pairs += front[3]
    prices |= {meeting(one, other) for one in pairs for other in pairs} - {None}
    ordered = sorted(prices, key=lambda price: price[1] / (price[0] + price[1]))
    return ordered + [amid(one, other) for one, other in zip(ordered, ordered[1:])]


def told_by_definition(front, price):
    if front is None:
        return None
    if front[0] == "at":
        return front[2] if front[1] == price else "endless"
    if front[0] == "endless" or is_ahead(price, front[1]) or is_ahead(front[2], price):
        return "endless"
    return max(worth(pair, price) for pair in front[3])


class Fronts(unittest.TestCase):
    def test_is_front(self):
        for front in RIGHT:
            self.assertIs(is_front(front), True, front)
        for thing in WRONG:
            self.assertIs(is_front(thing), False, thing)
        for thing in any_values():
            self.assertIs(is_front(thing), thing in (None, ("endless",), ("at", (1, 0), 0)) and not isinstance(thing, list))

    def test_wrong_fronts_prices_and_numbers(self):
        for wrong in WRONG:
            for function in (joined, summed, is_below):
                caught(self, BadFront, {}, function, wrong, None)
                caught(self, BadFront, {}, function, None, wrong)
            caught(self, BadFront, {}, at_price, wrong, (2, 0))
            caught(self, BadFront, {}, corners_at, wrong, (2, 0))
            caught(self, BadFront, {}, repeated, wrong, -1)
            caught(self, BadFront, {}, any_times, wrong)
        for wrong in [(2, 0), (True, 0), None, [1, 0]]:
            caught(self, BadPrice, {}, at_price, None, wrong)
            caught(self, BadPrice, {}, corners_at, None, wrong)
        for wrong in [-1, 1001, True, None, "1", (1,)]:
            caught(self, BadNumber, {}, repeated, None, wrong)

    def test_at_price(self):
        self.assertEqual(both_ways(self, at_price, front=("at", (2, 3), -5), price=(2, 3)), -5)
        self.assertEqual(at_price(("at", (2, 3), -5), (3, 2)), "endless")
        self.assertIsNone(at_price(None, (1, 0)))
        self.assertEqual(at_price(("endless",), (1, 0)), "endless")
        stretch = ("over", (2, 1), (1, 2), ((2, 0), (0, 2)))
        found = [at_price(stretch, price) for price in [(1, 0), (2, 1), (1, 1), (1, 2), (0, 1)]]
        self.assertEqual(found, ["endless", 4, 2, 4, "endless"])

    def test_corners_at(self):
        front = ("over", (2, 1), (1, 2), ((2, 0), (0, 2)))
        self.assertEqual(both_ways(self, corners_at, front=front, price=(1, 1)), ((2, 0), (0, 2)))
        self.assertEqual(corners_at(front, (2, 1)), ((2, 0),))
        self.assertEqual(corners_at(front, (1, 2)), ((0, 2),))
        self.assertEqual(corners_at(front, (1, 0)), ())
        for other in [None, ("endless",), ("at", (1, 1), 2)]:
            self.assertEqual(corners_at(other, (1, 1)), ())

    def test_front_of(self):
        self.assertEqual(both_ways(self, front_of, pairs=[(2, 0), (1, 1), (0, 2)]),
                         ("over", (1, 0), (0, 1), ((2, 0), (0, 2))))
        self.assertIsNone(front_of([]))
        self.assertIsNone(front_of(()))
        self.assertEqual(front_of([(1, 0), (1, -5), (1, 0)]), ("over", (1, 0), (0, 1), ((1, 0),)))
        for wrong in [None, 3, "ab", {}, True, {(1, 0): 1}]:
            caught(self, BadPairs, {"at": None}, front_of, wrong)
        caught(self, BadPairs, {"at": 0}, front_of, ("at", (1, 0), 0))
        caught(self, BadPairs, {"at": 1}, front_of, [(1, 0), [1, 0], None])
        caught(self, BadPairs, {"at": 2}, front_of, ((1, 0), (0, 1), (True, 0)))

    def test_front_of_tells_the_greatest_worth(self):
        drawing = Drawing(2)
        for _ in range(150):
            pairs = [drawing.pair(6) for _ in range(1 + drawing.below(7))]
            kept = list(pairs)
            front = front_of(pairs)
            self.assertEqual(pairs, kept)
            self.assertTrue(is_front(front))
            self.assertEqual(front, front_of(tuple(reversed(pairs))))
            for price in prices_of(front):
                self.assertEqual(at_price(front, price), max(worth(pair, price) for pair in pairs))

    def test_examples(self):
        front = front_of([(2, 0), (1, 1), (0, 2)])
        self.assertEqual(summed(front, front_of([(0, 0), (1, -1)])), ("over", (1, 0), (0, 1), ((3, -1), (0, 2))))
        self.assertEqual(any_times(front_of([(1, -2), (-1, 1)])), ("over", (2, 1), (1, 1), ((0, 0),)))
        self.assertEqual(any_times(front_of([(1, -1), (-1, 1)])), ("at", (1, 1), 0))
        self.assertEqual(any_times(front_of([(1, 0)])), ("at", (0, 1), 0))

    def test_stretches_that_touch_or_do_not_meet(self):
        first = ("over", (1, 0), (1, 1), ((3, 0),))
        second = ("over", (1, 1), (0, 1), ((0, 4),))
        third = ("over", (1, 2), (0, 1), ((0, 4),))
        self.assertEqual(both_ways(self, joined, one=first, other=second), ("at", (1, 1), 4))
        self.assertEqual(both_ways(self, summed, one=first, other=second), ("at", (1, 1), 7))
        self.assertEqual(joined(first, third), ("endless",))
        self.assertEqual(summed(first, third), ("endless",))
        self.assertEqual(joined(("at", (1, 1), 2), first), ("at", (1, 1), 3))
        self.assertEqual(joined(("at", (1, 2), 2), first), ("endless",))
        self.assertEqual(summed(("at", (1, 1), 2), ("at", (1, 1), 5)), ("at", (1, 1), 7))
        self.assertEqual(summed(("at", (1, 0), 2), ("at", (0, 1), 5)), ("endless",))
        self.assertIsNone(summed(("endless",), None))
        self.assertEqual(joined(("endless",), None), ("endless",))

    def test_joined_and_summed_at_all_prices(self):
        drawing = Drawing(3)
        for _ in range(400):
            one, other = drawing.front(6), drawing.front(6)
            greater, total = joined(one, other), summed(one, other)
            self.assertTrue(is_front(greater) and is_front(total))
            self.assertEqual((greater, total), (joined(other, one), summed(other, one)))
            self.assertEqual(joined(one, one), one)
            for price in prices_of(one, other):
                left, right = number(at_price(one, price)), number(at_price(other, price))
                self.assertEqual(number(at_price(greater, price)), max(left, right))
                empty = -INFINITE in (left, right)
                self.assertEqual(number(at_price(total, price)), -INFINITE if empty else left + right)
                self.assertEqual(at_price(one, price), told_by_definition(one, price))

    def test_joined_and_summed_are_associative_and_spread(self):
        drawing = Drawing(4)
        for _ in range(300):
            a, b, c = drawing.front(5), drawing.front(5), drawing.front(5)
            self.assertEqual(joined(joined(a, b), c), joined(a, joined(b, c)))
            self.assertEqual(summed(summed(a, b), c), summed(a, summed(b, c)))
            self.assertEqual(summed(a, joined(b, c)), joined(summed(a, b), summed(a, c)))

    def test_repeated(self):
        for front in RIGHT:
            self.assertEqual(both_ways(self, repeated, front=front, number=0), ZERO)
            total = ZERO
            for many in range(1, 6):
                total = summed(total, front)
                self.assertEqual(repeated(front, many), total)
        self.assertEqual(repeated(("at", (1, 1), 3), 1000), ("at", (1, 1), 3000))

    def test_any_times(self):
        self.assertEqual(any_times(None), ZERO)
        self.assertEqual(any_times(("endless",)), ("endless",))
        self.assertEqual(any_times(("at", (1, 1), 0)), ("at", (1, 1), 0))
        self.assertEqual(any_times(("at", (1, 1), -3)), ("at", (1, 1), 0))
        self.assertEqual(any_times(("at", (1, 1), 1)), ("endless",))
        drawing = Drawing(5)
        for _ in range(400):
            front = drawing.front(3)
            times = both_ways(self, any_times, front=front)
            self.assertTrue(is_front(times))
            for price in prices_of(front, times):
                right = 0 if number(at_price(front, price)) <= 0 else "endless"
                self.assertEqual(at_price(times, price), right)

    def test_is_below(self):
        drawing = Drawing(6)
        seen = set()
        for _ in range(500):
            one, other = drawing.front(2), drawing.front(2)
            right = all(number(at_price(one, price)) <= number(at_price(other, price)) for price in prices_of(one, other))
            self.assertIs(both_ways(self, is_below, one=one, other=other), right)
            self.assertIs(joined(one, other) == other, right)
            seen.add(right)
        self.assertEqual(seen, {True, False})

    def test_equal_just_if_the_same_at_all_prices(self):
        drawing = Drawing(7)
        fronts = RIGHT + [drawing.front(1) for _ in range(60)]
        for one in fronts:
            for other in fronts:
                same = all(at_price(one, price) == at_price(other, price) for price in prices_of(one, other))
                self.assertIs(one == other, same)

    def test_many_digits(self):
        big = 10 ** 12 - 1
        front = front_of([(big, 0), (0, big), (big // 2 + 1, big // 2 + 1)])
        self.assertEqual(len(front[3]), 3)
        self.assertEqual(at_price(front, price_of(big, 1)), big * big)
        self.assertTrue(is_front(repeated(front, 1000)))


if __name__ == "__main__":
    unittest.main()
