"""[12] pairs under a front, [13] turning prices, with [3] and [5]."""

import unittest

from drawing import Drawing, any_values, both_ways, caught, some_prices
from hitclocks.errors import BadFront, BadFronts, BadPair
from hitclocks.fronts import at_price, corners_at, front_of
from hitclocks.prices import amid, is_ahead, is_price, meeting, worth
from hitclocks.unders import above, is_mix, mix, turning_prices

ENDS = front_of([(2, 0), (0, 2)])
STRETCH = ("over", (2, 1), (1, 2), ((2, 0), (0, 2)))
THREE = ("over", (1, 0), (0, 1), ((3, 0), (2, 2), (0, 3)))


def goes_above(front, pair, price):
    told = at_price(front, price)
    return told is None or told != "endless" and worth(pair, price) > told


def prices_of(front):
    """Some prices, and all at which the front may bend or end."""
    prices = some_prices()
    if front is not None and front[0] == "at":
        prices.append(front[1])
    if front is not None and front[0] == "over":
        prices += [front[1], front[2]] + [meeting(one, other) for one, other in zip(front[3], front[3][1:])]
    return prices


def mix_by_definition(front, pair, thing):
    """As is_mix, of a triple of numbers."""
    many, at, more = thing
    corners = front[3]
    if min(thing) < 0 or many == more == 0 or at >= len(corners) or more and at + 1 >= len(corners):
        return False
    other = corners[at + 1] if more else (0, 0)
    sums = [many * corners[at][k] + more * other[k] - (many + more) * pair[k] for k in (0, 1)]
    return worth(tuple(sums), front[1]) >= 0 and worth(tuple(sums), front[2]) >= 0


class Unders(unittest.TestCase):
    def test_examples(self):
        self.assertIsNone(both_ways(self, above, front=ENDS, pair=(1, 1)))
        self.assertIs(is_mix(ENDS, (1, 1), both_ways(self, mix, front=ENDS, pair=(1, 1))), True)
        self.assertIs(both_ways(self, is_mix, front=ENDS, pair=(1, 1), thing=(1, 0, 1)), True)
        self.assertIsNone(mix(ENDS, (1, 2)))
        price = above(ENDS, (1, 2))
        self.assertGreater(worth((1, 2), price), at_price(ENDS, price))
        self.assertGreater(worth((1, 2), (1, 1)), at_price(ENDS, (1, 1)))

    def test_fronts_of_all_kinds(self):
        self.assertTrue(is_price(above(None, (-5, -5))))
        self.assertIsNone(above(("endless",), (10 ** 9, 10 ** 9)))
        self.assertIsNone(above(("at", (1, 1), 3), (1, 2)))
        self.assertEqual(above(("at", (1, 1), 3), (2, 2)), (1, 1))
        self.assertIsNone(above(STRETCH, (3, -2)))
        self.assertEqual(above(STRETCH, (3, -1)), (2, 1))
        for front in [None, ("endless",), ("at", (1, 1), 3)]:
            self.assertIsNone(mix(front, (0, 0)))
            self.assertIs(is_mix(front, (0, 0), (1, 0, 0)), False)

    def test_above_and_mix_of_drawn_fronts(self):
        drawing = Drawing(11)
        mixes = 0
        for _ in range(1500):
            front, pair = drawing.front(4), drawing.pair(4)
            price = above(front, pair)
            shown = mix(front, pair)
            if price is not None:
                self.assertTrue(is_price(price) and goes_above(front, pair, price))
                self.assertIsNone(shown)
            else:
                self.assertFalse(any(goes_above(front, pair, some) for some in prices_of(front)))
                if front is not None and front[0] == "over":
                    self.assertIs(is_mix(front, pair, shown), True)
                    self.assertTrue(mix_by_definition(front, pair, shown))
                    mixes += 1
                else:
                    self.assertIsNone(shown)
        self.assertGreater(mixes, 100)

    def test_mixes_of_many_corners(self):
        places = set()
        corners = [(20 - at * (at + 1) // 2, 8 * at - at * (at + 1) // 2) for at in range(6)]
        for front in [front_of(corners), ("over", (9, 1), (1, 9), front_of(corners)[3])]:
            self.assertEqual(at_price(front, (1, 1)), max(a + b for a, b in corners))
            for a in range(-2, 21):
                for b in range(0, 26):
                    shown = mix(front, (a, b))
                    self.assertIs(shown is None, above(front, (a, b)) is not None)
                    if shown is not None:
                        self.assertTrue(mix_by_definition(front, (a, b), shown))
                        self.assertIs(is_mix(front, (a, b), shown), True)
                        places.add(shown[1:] if shown[2] == 0 else shown[1])
        self.assertGreater(len(places), 8)

    def test_is_mix_is_judged_by_two_sums(self):
        for front in [ENDS, STRETCH, THREE]:
            for pair in [(1, 1), (0, 0), (2, 1), (1, 2), (3, -1)]:
                for many in range(-1, 4):
                    for at in range(-1, 4):
                        for more in range(-1, 4):
                            thing = (many, at, more)
                            right = at >= 0 and mix_by_definition(front, pair, thing)
                            self.assertIs(is_mix(front, pair, thing), right, (front, pair, thing))

    def test_is_mix_of_any_values(self):
        for thing in any_values() + [(True, 0, 1), (1, False, 1), (1, 0, True), [1, 0, 1], (1, 0), (1, 0, 1, 0), (1, 0, None)]:
            self.assertIs(is_mix(ENDS, (1, 1), thing), False, thing)

    def test_wrong_parameters(self):
        for wrong in [("at", (2, 0), 0), "endless", [None], True]:
            caught(self, BadFront, {}, above, wrong, None)
            caught(self, BadFront, {}, mix, wrong, None)
            caught(self, BadFront, {}, is_mix, wrong, None, None)
        for wrong in [None, (True, 0), [0, 0], (0,), 0]:
            caught(self, BadPair, {}, above, None, wrong)
            caught(self, BadPair, {}, mix, None, wrong)
            caught(self, BadPair, {}, is_mix, None, wrong, None)


class Turning(unittest.TestCase):
    def test_by_hand(self):
        self.assertEqual(both_ways(self, turning_prices, fronts=[]), [(1, 0), (0, 1)])
        self.assertEqual(turning_prices([None, ("endless",)]), [(1, 0), (0, 1)])
        self.assertEqual(turning_prices([("at", (2, 3), 1)]), [(1, 0), (2, 3), (0, 1)])
        self.assertEqual(turning_prices([STRETCH]), [(1, 0), (2, 1), (1, 1), (1, 2), (0, 1)])
        self.assertEqual(turning_prices([front_of([(3, 0), (0, 3)]), front_of([(2, 2)])]),
                         [(1, 0), (2, 1), (1, 1), (1, 2), (0, 1)])

    def test_what_does_not_turn(self):
        # Where two fronts touch by more than one corner, or by the same one, nothing turns but the bends.
        self.assertEqual(turning_prices([ENDS, front_of([(1, 1)])]), [(1, 0), (1, 1), (0, 1)])
        self.assertEqual(turning_prices([front_of([(3, 0)]), front_of([(3, 0), (0, 5)])]), [(1, 0), (5, 3), (0, 1)])
        self.assertEqual(turning_prices([("over", (3, 1), (2, 1), ((3, 0),)), ("over", (1, 2), (0, 1), ((0, 3),))]),
                         [(1, 0), (3, 1), (2, 1), (1, 2), (0, 1)])
        self.assertEqual(turning_prices([("at", (1, 1), 2), front_of([(1, 1)])]), [(1, 0), (1, 1), (0, 1)])

    def test_many(self):
        fronts = [front_of([(k, -k)]) for k in range(24)]
        self.assertEqual(turning_prices(tuple(fronts)), [(1, 0), (1, 1), (0, 1)])
        caught(self, BadFronts, {"at": None}, turning_prices, fronts + [None])
        for wrong in [None, 1, "ab", {}, {None: None}]:
            caught(self, BadFronts, {"at": None}, turning_prices, wrong)
        caught(self, BadFronts, {"at": 0}, turning_prices, ("endless",))
        caught(self, BadFronts, {"at": 2}, turning_prices, [None, ("endless",), ["endless"], 5])

    def test_nothing_changes_between_neighbours(self):
        drawing = Drawing(12)
        for _ in range(120):
            fronts = [drawing.front(4) for _ in range(1 + drawing.below(4))]
            kept = list(fronts)
            prices = turning_prices(fronts)
            self.assertEqual(fronts, kept)
            self.assertEqual((prices[0], prices[-1]), ((1, 0), (0, 1)))
            for one, other in zip(prices, prices[1:]):
                self.assertTrue(is_ahead(one, other))
                between = amid(one, other)
                inner = [amid(one, between), between, amid(between, other)]
                for front in fronts:
                    self.assertEqual(len({corners_at(front, price) for price in inner}), 1)
                for left in fronts:
                    for right in fronts:
                        self.assertEqual(len({self.order(left, right, price) for price in inner}), 1)
            self.assertEqual(set(prices), self.by_definition(fronts))

    def order(self, left, right, price):
        told = [at_price(front, price) for front in (left, right)]
        heights = [float("-inf") if one is None else float("inf") if one == "endless" else one for one in told]
        return (heights[0] > heights[1]) - (heights[0] < heights[1])

    def by_definition(self, fronts):
        prices = {(1, 0), (0, 1)}
        for front in fronts:
            if front is not None and front[0] != "endless":
                prices |= set(prices_of(front)[len(some_prices()):])
        for at, one in enumerate(fronts):
            for other in fronts[at + 1:]:
                corners = [front[3] if front is not None and front[0] == "over" else () for front in (one, other)]
                for price in {meeting(left, right) for left in corners[0] for right in corners[1]} - {None}:
                    best = (corners_at(one, price), corners_at(other, price))
                    same = at_price(one, price) == at_price(other, price)
                    if same and len(best[0]) == len(best[1]) == 1 and best[0] != best[1]:
                        prices.add(price)
        return prices


if __name__ == "__main__":
    unittest.main()
