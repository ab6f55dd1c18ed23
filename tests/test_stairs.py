"""[120] best_at, stairs, fewest, with [3] and [5]."""

import unittest
from itertools import combinations

from drawing import Drawing, any_values, both_ways, caught, some_prices, wrong_values
from hitclocks.errors import BadFronts
from hitclocks.fronts import at_price, front_of, is_front
from hitclocks.prices import amid, is_ahead, price_of
from hitclocks.stairs import best_at, fewest, stairs
from hitclocks.unders import turning_prices

TWO = [front_of([(3, 0), (0, 3)]), front_of([(2, 2)])]
ENDLESS = ("endless",)


def best_by_words(fronts, price):
    told = [at_price(front, price) for front in fronts]
    ranks = [(0, 0) if one is None else (2, 0) if one == "endless" else (1, one) for one in told]
    return tuple(at for at, rank in enumerate(ranks) if rank == min(ranks))


def is_in(price, step):
    low, low_in, high, high_in, _ = step
    if price == low:
        return low_in
    if price == high:
        return high_in
    return is_ahead(low, price) and is_ahead(price, high)


class Stairs(unittest.TestCase):
    def judge(self, fronts):
        """The steps are what best_at tells of all prices; their number."""
        steps = both_ways(self, stairs, fronts=fronts)
        self.assertIs(type(steps), list)
        prices = turning_prices(fronts)
        prices += [amid(one, other) for one, other in zip(prices, prices[1:])]
        prices += some_prices() + [price_of(p, q) for p, q in ((11, 3), (7, 11), (100, 1), (1, 100), (1000, 999))]
        prices += [end for step in steps for end in (step[0], step[2])]
        for price in prices:
            self.assertEqual([step[4] for step in steps if is_in(price, step)], [best_by_words(fronts, price)])
            self.assertEqual(both_ways(self, best_at, fronts=fronts, price=price), best_by_words(fronts, price))
        for low, low_in, high, high_in, best in steps:
            self.assertTrue(type(low_in) is bool and type(high_in) is bool and best)
            self.assertTrue(is_ahead(low, high) or low == high and low_in and high_in)
        for one, other in zip(steps, steps[1:]):
            self.assertNotEqual(one[4], other[4])
            self.assertEqual(one[2], other[0])
            self.assertIs(one[3], not other[1])
        self.assertEqual(steps[0][:2], ((1, 0), True))
        self.assertEqual(steps[-1][2:4], ((0, 1), True))
        rows = [step[4] for step in steps]
        lots = [lot for many in range(1, len(fronts) + 1) for lot in combinations(range(len(fronts)), many)]
        self.assertEqual(both_ways(self, fewest, fronts=fronts), next(lot for lot in lots if all(set(row) & set(lot) for row in rows)))
        return len(steps)

    def test_by_hand(self):
        self.assertEqual(stairs(TWO), [
            ((1, 0), True, (2, 1), False, (1,)), ((2, 1), True, (2, 1), True, (0, 1)), ((2, 1), False, (1, 2), False, (0,)),
            ((1, 2), True, (1, 2), True, (0, 1)), ((1, 2), False, (0, 1), True, (1,))])
        self.assertEqual(fewest(TWO), (0, 1))
        self.assertEqual(stairs([TWO[0]]), [((1, 0), True, (0, 1), True, (0,))])
        self.assertEqual(stairs((TWO[0],)), stairs([TWO[0]]))
        self.assertEqual(fewest([TWO[0]] * 12), (0,))
        self.assertEqual(stairs([TWO[0]] * 12), [((1, 0), True, (0, 1), True, tuple(range(12)))])
        # Nothing is less than all numbers, endless greater.
        self.assertEqual(stairs([TWO[0], None, ENDLESS]), [((1, 0), True, (0, 1), True, (1,))])
        self.assertEqual(stairs([TWO[0], ENDLESS]), [((1, 0), True, (0, 1), True, (0,))])
        self.assertEqual(stairs([ENDLESS, ENDLESS]), [((1, 0), True, (0, 1), True, (0, 1))])
        self.assertEqual(stairs([None, TWO[0], None]), [((1, 0), True, (0, 1), True, (0, 2))])

    def test_ends_of_stretches(self):
        for fronts, right in [
                ([("at", (1, 1), 5), ENDLESS], [((1, 0), True, (1, 1), False, (0, 1)), ((1, 1), True, (1, 1), True, (0,)), ((1, 1), False, (0, 1), True, (0, 1))]),
                ([("at", (1, 0), 5), ENDLESS], [((1, 0), True, (1, 0), True, (0,)), ((1, 0), False, (0, 1), True, (0, 1))]),
                ([ENDLESS, ("at", (0, 1), -5)], [((1, 0), True, (0, 1), False, (0, 1)), ((0, 1), True, (0, 1), True, (1,))]),
                ([("over", (1, 0), (1, 1), ((0, 0),)), ("over", (1, 1), (0, 1), ((0, 0),))],
                 [((1, 0), True, (1, 1), False, (0,)), ((1, 1), True, (1, 1), True, (0, 1)), ((1, 1), False, (0, 1), True, (1,))]),
                ([front_of([(1, 0)]), front_of([(2, 0)])], [((1, 0), True, (0, 1), False, (0,)), ((0, 1), True, (0, 1), True, (0, 1))]),
                ([front_of([(0, 1)]), front_of([(0, 2)])], [((1, 0), True, (1, 0), True, (0, 1)), ((1, 0), False, (0, 1), True, (0,))])]:
            self.assertEqual(stairs(fronts), right)
            self.judge(fronts)

    def test_drawn(self):
        drawing = Drawing(341)
        many = {}
        for _ in range(120):
            fronts = [drawing.front(4) for _ in range(1 + drawing.below(5))]
            if drawing.below(3):
                fronts = [front for front in fronts if front is not None] or [TWO[0]]
            steps = self.judge(fronts)
            many[steps] = many.get(steps, 0) + 1
        self.assertGreater(len(many), 6)

    def test_many_are_needed(self):
        # At each of these prices another one alone is least.
        fronts = [front_of([(at * at, (11 - at) * (11 - at))]) for at in range(12)]
        self.assertEqual(fewest(fronts), tuple(range(12)))
        self.assertEqual(self.judge(fronts), 23)
        fronts = [front_of([(at * at, (10 - at) * (10 - at))]) for at in range(11)] + [front_of([(0, 0)])]
        self.assertEqual(fewest(fronts), (11,))
        best = [front_of([(3, 0), (0, 3)]), front_of([(2, 2)]), ("over", (1, 0), (1, 1), ((-9, 0),)), ("over", (1, 1), (0, 1), ((0, -9),))]
        self.assertEqual(self.judge(best), 3)
        self.assertEqual(fewest(best), (2, 3))

    def test_12_fronts_and_13(self):
        for function in (stairs, fewest):
            for thing in any_values() + [[TWO[0]] * 13, {0: TWO[0]}]:
                if isinstance(thing, (list, tuple)) and 1 <= len(thing) <= 12:
                    wrong = [at for at, front in enumerate(thing) if not is_front(front)]
                    if wrong:
                        caught(self, BadFronts, {"at": wrong[0]}, function, thing)
                        caught(self, BadFronts, {"at": wrong[0]}, best_at, thing, None)
                else:
                    caught(self, BadFronts, {"at": None}, function, thing)
                    caught(self, BadFronts, {"at": None}, best_at, thing, None)
            for at in range(12):
                for wrong in (True, 0, "endless", (), ("at", (1, 0), True), list(TWO[0])):
                    caught(self, BadFronts, {"at": at}, function, [TWO[0]] * at + [wrong] + [None] * (11 - at))
        for price, error, attributes in wrong_values(("price", "price"))["price"]:
            caught(self, error, attributes, best_at, TWO, price)

    def test_nothing_is_changed(self):
        fronts = [TWO[0], None, ENDLESS, ("at", (1, 1), 3)]
        kept = repr(fronts)
        stairs(fronts).clear()
        fewest(fronts)
        self.assertEqual(repr(fronts), kept)
        self.assertEqual(len(stairs(fronts)), 1)


if __name__ == "__main__":
    unittest.main()
