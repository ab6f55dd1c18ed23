"""[14] by_asking."""

import unittest

from drawing import Drawing, both_ways
from hitclocks.asking import by_asking
from hitclocks.fronts import at_price, corners_at, front_of
from hitclocks.prices import is_ahead, is_price, worth


def asks_of(front, drawing, asked):
    """A function that answers for a front, by pairs that are drawn among all that fit, the same ones each time."""
    answers = {}

    def answer(price):
        if not is_price(price):
            raise AssertionError(price)
        asked.append(price)
        if price not in answers:
            answers[price] = answer_at(front, drawing, price)
        return answers[price]

    return answer


def answer_at(front, drawing, price):
    told = at_price(front, price)
    if told is None:
        return None
    if told == "endless":
        return ("gains", gain_at(front, drawing, price))
    if front[0] == "at":
        return ("most", pair_worth(price, told, drawing))
    return ("most", pair_under(front, price, drawing))


def pair_worth(price, told, drawing):
    """Some pair that is worth just this at a price (all pairs are under a front that is told at one price alone)."""
    for a in range(told - 40, told + 41):
        for b in range(told - 40, told + 41):
            if worth((a, b), price) == told and drawing.below(3) == 0:
                return (a, b)
    raise AssertionError((price, told))


def pair_under(front, price, drawing):
    """A corner, or at a bend or an end a pair beyond it that is worth the same there and less elsewhere."""
    corners = corners_at(front, price)
    p, q = price
    more = drawing.below(3)
    a, b = corners[drawing.below(len(corners))]
    if len(corners) == 1 and price == front[1]:
        return (a + more * q, b - more * p)
    if len(corners) == 1 and price == front[2]:
        return (a - more * q, b + more * p)
    return (a, b)


def gain_at(front, drawing, price):
    """A pair that is worth more than 0 here, and nowhere from low to high."""
    if front == ("endless",):
        found = [(1, 1), (3, -1), (-1, 3), (1, 0), (0, 1), (1, -1), (-1, 1), (2, -1), (5, -7)]
    else:
        low, high = (front[1], front[1]) if front[0] == "at" else (front[1], front[2])
        found = [(low[1], -low[0]), (-high[1], high[0]), (2 * low[1], -2 * low[0])]
        found += [(q, -p) for p in range(6) for q in range(6) if is_price((p, q)) and not is_ahead(low, (p, q))]
        found += [(-q, p) for p in range(6) for q in range(6) if is_price((p, q)) and not is_ahead((p, q), high)]
    found = [pair for pair in found if worth(pair, price) > 0]
    return found[drawing.below(len(found))]


class Asking(unittest.TestCase):
    def test_fronts_of_all_kinds(self):
        for front in [None, ("endless",), ("at", (1, 0), 3), ("at", (0, 1), -3), ("at", (2, 3), 7), front_of([(0, 0)]),
                      ("over", (2, 1), (1, 2), ((2, 0), (0, 2))), ("over", (1, 0), (1, 1), ((5, 1),)),
                      ("over", (1, 1), (0, 1), ((5, 1),)), front_of([(9, 0), (8, 4), (5, 7), (0, 9)])]:
            for seed in range(20):
                asked = []
                answer = asks_of(front, Drawing(seed), asked)
                self.assertEqual(both_ways(self, by_asking, asks=answer), front)
                self.assertLess(len(asked), 80)

    def test_drawn_fronts(self):
        for seed in range(600):
            drawing = Drawing(1000 + seed)
            front = drawing.front(6)
            asked = []
            self.assertEqual(by_asking(asks_of(front, drawing, asked)), front)
            self.assertLess(len(asked), 60)

    def test_one_price_by_position(self):
        self.assertEqual(by_asking(lambda *prices: ("most", (len(prices), 0))), front_of([(1, 0)]))

    def test_objects_that_are_called(self):
        class Asks:
            def __call__(self, price):
                return ("most", (3, -1))

        self.assertEqual(by_asking(Asks()), front_of([(3, -1)]))


if __name__ == "__main__":
    unittest.main()
