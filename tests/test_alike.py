"""[100] excess, likeness, parting, least_memory, with [3] and [5]."""

import unittest
from itertools import product

from drawing import Drawing, both_ways, caught, refuses, some_prices, wrong_values
from hitclocks.alike import excess, least_memory, likeness, parting
from hitclocks.caches import cache
from hitclocks.errors import BadMemory, BadWord
from hitclocks.memories import Memory, read, relettered
from hitclocks.prices import worth
from test_at_a_price import memory_of
from test_sides import wrong_two

ALL = ("all",)


def words(letters, most):
    """All words of up to so many letters, shorter ones first, then ascending."""
    return [word for length in range(most + 1) for word in product(letters, repeat=length)]


def one_state(*pairs):
    return Memory(tuple("abcd"[:len(pairs)]), (tuple((0,) + pair for pair in pairs),))


def pair_memory(drawing, one):
    """A memory that may be like the other one, at all prices or at some."""
    kind = drawing.below(5)
    p, q = drawing.price()
    if kind == 0:
        return drawing.memory(1 + drawing.below(3), len(one.letters), 1)
    rows = []
    for row in one.moves:
        changed = []
        for place, a, b in row:
            times = drawing.below(3) - 1 if kind in (1, 2) else 0
            changed.append((place, a + times * q, b - times * p))
        rows.append(tuple(changed))
    if kind == 4:
        # Each state twice, the two of them leading to either of the two.
        double = []
        for row in rows + rows:
            double.append(tuple((place + drawing.below(2) * len(rows), a, b) for place, a, b in row))
        rows = double
    return Memory(one.letters, tuple(rows))


def drawn_pairs(seed, many):
    drawing = Drawing(seed)
    for _ in range(many):
        one = drawing.memory(1 + drawing.below(3), 2, 1)
        other = pair_memory(drawing, one)
        yield drawing, one, other, drawing.below(len(one)), drawing.below(len(other)) if drawing.below(2) else 0


class Excess(unittest.TestCase):
    def test_against_reading(self):
        for drawing, one, other, state, against in drawn_pairs(241, 40):
            for _ in range(5):
                word = tuple(drawing.pick(one.letters) for _ in range(drawing.below(7)))
                paid, less = read(one, state, word)[1], read(other, against, word)[1]
                told = both_ways(self, excess, one=one, other=other, state=state, against=against, word=word)
                self.assertEqual(told, (paid[0] - less[0], paid[1] - less[1]))
        self.assertEqual(excess(one_state((2, 1)), one_state((1, 5)), 0, 0, ("a", "a")), (2, -8))
        self.assertEqual(excess(one_state((2, 1)), one_state((1, 5)), 0, 0, ()), (0, 0))


class Likeness(unittest.TestCase):
    def test_by_hand(self):
        late, once = cache("last", 1, 2, "late"), cache("last", 1, 2, "once")
        for one, other, right in [(one_state((2, 0)), one_state((0, 3)), ("at", (3, 2))), (late, late, ALL),
                                  (one_state((2, 0)), one_state((1, 0)), ("at", (0, 1))), (one_state((2, 0)), one_state((2, 7)), ("at", (1, 0))),
                                  (one_state((2, 0)), one_state((1, 1)), ("at", (1, 1))),
                                  (one_state((2, 0)), one_state((1, -1)), ("never", (("a",),))),
                                  (one_state((2, 0)), one_state((3, 1)), ("never", (("a",),))),
                                  (cache("last", 1, 3, "late"), cache("first", 1, 3, "late"), ALL),
                                  (one_state((1, 0), (2, 0)), one_state((0, 1), (0, 2)), ("at", (1, 1))),
                                  (one_state((1, 0), (0, 0)), one_state((0, 1), (0, 2)), ("never", (("a",), ("b",)))),
                                  (one_state((1, 0), (0, 1)), one_state((0, 0), (0, 0)), ("never", (("a",), ("b",))))]:
            case = {"one": one, "other": other, "state": 0, "against": 0}
            self.judge(one, other, 0, 0)
            self.assertEqual(both_ways(self, likeness, **case)[:len(right)] if right[0] != "never" else right, right)
            self.assertEqual(likeness(*case.values())[0], right[0])
            if right[0] == "never":
                self.assertEqual(len(likeness(*case.values())[1]), len(right[1]))
        self.assertEqual(likeness(once, late, 0, 0), ("at", (1, 0)))
        self.assertEqual(parting(once, late, 0, 0), ("A",))
        self.assertEqual(likeness(late, late, 3, 0), ("at", (0, 1)))
        self.assertEqual(likeness(late, late, 1, 0)[0], "never")

    def judge(self, one, other, state, against):
        """The answer is what all words tell, as far as these are told."""
        told = both_ways(self, likeness, one=one, other=other, state=state, against=against)
        first = both_ways(self, parting, one=one, other=other, state=state, against=against)
        some = words(one.letters, 5 if len(one.letters) < 3 else 3)
        excesses = [(word, excess(one, other, state, against, word)) for word in some]
        apart = [word for word, pair in excesses if pair != (0, 0)]
        self.assertIs(first is None, told == ALL)
        if apart:
            self.assertEqual(first, apart[0])
        if told == ALL:
            self.assertEqual(apart, [])
        elif told[0] == "at":
            self.assertEqual(len(told), 2)
            self.assertEqual({worth(pair, told[1]) for _, pair in excesses}, {0})
            self.assertNotEqual(excess(one, other, state, against, first), (0, 0))
        else:
            self.assertEqual(told[0], "never")
            self.assertIs(type(told[1]), tuple)
            self.assertIn(len(told[1]), (1, 2))
            pairs = [excess(one, other, state, against, word) for word in told[1]]
            prices = some_prices() + [(abs(b) // d, abs(a) // d) for a, b in pairs if (a, b) != (0, 0) for d in [greatest_divisor(a, b)]]
            for price in prices:
                self.assertTrue(any(worth(pair, price) != 0 for pair in pairs), (told, price))
        return told[0]

    def test_drawn(self):
        kinds = {}
        for drawing, one, other, state, against in drawn_pairs(242, 300):
            kind = self.judge(one, other, state, against)
            kinds[kind] = kinds.get(kind, 0) + 1
            self.assertEqual(likeness(other, one, against, state)[0], kind)
        self.assertGreater(min(kinds.values()), 30)
        self.assertEqual(len(kinds), 3)

    def test_words_that_part_late(self):
        rows = [((state + 1, 0, 0), (0, 0, 0)) for state in range(99)]
        one = Memory(("a", "b"), tuple(rows + [((99, 1, 0), (99, 0, 0))]))
        other = Memory(("a", "b"), tuple(rows + [((99, 0, 0), (99, 0, 1))]))
        self.assertEqual(parting(one, other, 0, 0), ("a",) * 100)
        self.assertEqual(likeness(one, other, 0, 0)[0], "never")
        self.assertEqual(parting(one, other, 99, 99), ("a",))
        self.assertEqual(parting(one, other, 98, 99), ("b",))
        self.assertEqual(parting(one, one, 0, 1), ("a",) * 99)
        self.assertEqual(likeness(one, one, 0, 1), ("at", (0, 1)))
        self.assertEqual(likeness(one, one, 7, 7), ALL)

    def test_first_of_the_shortest(self):
        one = Memory(("a", "b"), (((0, 0, 0), (1, 0, 0)), ((1, 1, 0), (1, 1, 0))))
        other = Memory(("a", "b"), (((0, 0, 0), (0, 0, 0)),))
        self.assertEqual(parting(one, other, 0, 0), ("b", "a"))
        turned = relettered(one, {"a": "b", "b": "a"})
        self.assertEqual(parting(turned, other, 0, 0), ("a", "a"))
        # Only a b b a a parts: other letters lead back to the beginning.
        rows = []
        for state, letter in enumerate("abbaa"):
            rows.append(tuple((state + 1 if name == letter and state < 4 else 0, 0, int(name == letter and state == 4)) for name in "ab"))
        self.assertEqual(parting(Memory(("a", "b"), tuple(rows)), other, 0, 0), ("a", "b", "b", "a", "a"))
        self.assertEqual(parting(Memory(("a", "b"), tuple(rows)), other, 3, 0), ("a", "a"))


def greatest_divisor(a, b):
    while b:
        a, b = b, a % b
    return abs(a)


class Least(unittest.TestCase):
    def test_by_hand(self):
        same = Memory(("a", "b"), (((1, 1, 0), (2, 0, 1)), ((2, 1, 0), (0, 0, 1)), ((0, 1, 0), (1, 0, 1))))
        self.assertEqual(both_ways(self, least_memory, memory=same, state=2), one_state((1, 0), (0, 1)))
        late = cache("last", 1, 2, "late")
        self.assertEqual(least_memory(late, 0), late)
        three = Memory(("a", "b"), (((2, 0, 0), (1, 0, 0)), ((0, 5, 0), (1, 0, 0)), ((0, 0, 7), (2, 0, 0)), ((3, 9, 9), (3, 9, 9))))
        self.assertEqual(least_memory(three, 0), Memory(("a", "b"), (
            ((1, 0, 0), (2, 0, 0)), ((0, 0, 7), (1, 0, 0)), ((0, 5, 0), (2, 0, 0)))))
        self.assertEqual(least_memory(three, 3), one_state((9, 9), (9, 9)))
        self.assertEqual(len(three), 4)

    def test_drawn(self):
        less = 0
        for drawing, one, other, state, against in drawn_pairs(243, 250):
            least = both_ways(self, least_memory, memory=one, state=state)
            self.assertEqual(likeness(one, least, state, 0), ALL)
            self.assertEqual(least_memory(least, 0), least)
            self.assertLessEqual(len(least), len(one))
            less += len(least_memory(other, against)) < len(other)
            # No two of its states are alike, and each one is come to: so there is none with fewer states.
            met = [0]
            for place in [place for row in least.moves for place, _, _ in row]:
                if place not in met:
                    self.assertEqual(place, len(met))
                    met.append(place)
            self.assertEqual(len(met), len(least))
            for first in range(len(least)):
                for second in range(first):
                    self.assertNotEqual(likeness(least, least, first, second), ALL)
            self.assertIs(least == least_memory(other, against), parting(one, other, state, against) is None)
        self.assertGreater(less, 30)

    def test_120_states(self):
        chain = Memory(("a",), tuple(((min(state + 1, 119), int(state == 118), 0),) for state in range(120)))
        self.assertEqual(least_memory(chain, 0), chain)
        self.assertEqual(len(least_memory(chain, 100)), 20)
        ring = Memory(("a",), tuple((((state + 1) % 120, state % 8, 0),) for state in range(120)))
        self.assertEqual(least_memory(ring, 3), Memory(("a",), tuple((((state + 1) % 8, (state + 3) % 8, 0),) for state in range(8))))


class Refusing(unittest.TestCase):
    def test_wrong_values(self):
        wrong = {**wrong_two(), **wrong_values(("memory", "memory")), "word": [
            (thing, BadWord, {}) for thing in [None, 0, True, "a", ["a"], ("c",), ("a", ""), (1,), ("a", None), (("a",),), {}, ("a", True)]]}
        good = {"one": memory_of(2, "ab"), "other": memory_of(3, "ab"), "state": 1, "against": 2}
        refuses(self, likeness, good, wrong)
        refuses(self, parting, good, wrong)
        refuses(self, excess, {**good, "word": ("a",)}, wrong)
        refuses(self, least_memory, {"memory": memory_of(2), "state": 1}, wrong)
        caught(self, BadMemory, {"part": "letters"}, parting, memory_of(1), memory_of(1, "ab"), None, None)


if __name__ == "__main__":
    unittest.main()
