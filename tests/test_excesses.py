"""[102] excess_front, potentials, rings, excess_showing, beginnings, with [3] and [5]."""

import unittest

from drawing import NOT_NUMBERS, Drawing, any_values, both_ways, caught, refuses, some_prices, wrong_values
from hitclocks.alike import excess, likeness
from hitclocks.caches import cache
from hitclocks.errors import BadMemory, BadRing, TooMany
from hitclocks.excesses import beginnings, excess_front, excess_showing, gain, is_excess_showing, is_potential
from hitclocks.fronts import at_price, front_of, is_below, is_front, joined, summed
from hitclocks.lengths import free
from hitclocks.losses import loss
from hitclocks.memories import Memory, read
from hitclocks.prices import worth
from hitclocks.settling import settling
from hitclocks.wholes import critical, whole
from reference import INFINITE, mutants
from test_alike import drawn_pairs, one_state, words
from test_sides import ring, wrong_two

ZERO = front_of([(0, 0)])


def steps_of(one, other, pair):
    """What each letter does from a pair of states: (letter, next pair, excess)."""
    found = []
    for letter, (place, a, b), (follower, c, d) in zip(one.letters, one.moves[pair[0]], other.moves[pair[1]]):
        found.append((letter, (place, follower), (a - c, b - d)))
    return found


def greatest(one, other, begun, price):
    """For each pair that is come to the greatest worth of a word from there, INFINITE without a bound: by rounds."""
    known, waiting = {begun: 0}, [begun]
    while waiting:
        for _, pair, _ in steps_of(one, other, waiting.pop()):
            if pair not in known:
                known[pair] = 0
                waiting.append(pair)
    for lap in range(4 * len(known) + 4):
        now = {}
        for pair in known:
            now[pair] = max([0] + [worth(paid, price) + known[further] for _, further, paid in steps_of(one, other, pair)])
            if known[pair] == INFINITE or lap > len(known) and now[pair] > known[pair]:
                now[pair] = INFINITE
        known = now
    return known


def is_potential_by_words(one, other, begun, price, thing):
    if type(thing) is not dict:
        return False
    for pair, number in thing.items():
        if type(pair) is not tuple or len(pair) != 2 or any(type(state) is not int for state in pair):
            return False
        if not 0 <= pair[0] < len(one) or not 0 <= pair[1] < len(other) or type(number) is not int or number < 0:
            return False
    for pair in thing:
        for _, further, paid in steps_of(one, other, pair):
            if further not in thing or thing[pair] < worth(paid, price) + thing[further]:
                return False
    return begun in thing


def is_word(letters, thing):
    return type(thing) is tuple and all(type(letter) is str and letter in letters for letter in thing)


def ring_gain(one, other, begun, thing):
    if type(thing) is not tuple or len(thing) != 2 or not is_word(one.letters, thing[0]) or not is_word(one.letters, thing[1]):
        return None
    s, t = read(one, begun[0], thing[0])[0], read(other, begun[1], thing[0])[0]
    if not thing[1] or (read(one, s, thing[1])[0], read(other, t, thing[1])[0]) != (s, t):
        return None
    return excess(one, other, s, t, thing[1])


def gains_fit(front, gains):
    if front is None:
        return gains == []
    if front[0] == "endless":
        return 1 <= len(gains) <= 2 and all(max(worth(pair, price) for pair in gains) > 0 for price in dense_prices())
    low, high = (front[1], front[1]) if front[0] == "at" else front[1:3]
    wanted = ([(low, 0)] if low != (1, 0) else []) + ([(high, 1)] if high != (0, 1) else [])
    return len(gains) == len(wanted) and all(worth(pair, price) == 0 and pair[at] > 0 for pair, (price, at) in zip(gains, wanted))


def dense_prices():
    from hitclocks.prices import price_of
    return [price_of(p, q) for p in range(25) for q in range(25) if p or q]


def is_showing_by_words(one, other, begun, thing):
    if type(thing) is not dict or set(thing) != {"front", "words", "potentials", "rings"} or not is_front(thing["front"]):
        return False
    if not all(type(thing[key]) in (list, tuple) for key in ("words", "potentials", "rings")):
        return False
    front = thing["front"]
    gains = [ring_gain(one, other, begun, one_ring) for one_ring in thing["rings"]]
    if None in gains or not gains_fit(front, gains) or not all(is_word(one.letters, word) for word in thing["words"]):
        return False
    pairs = [excess(one, other, begun[0], begun[1], word) for word in thing["words"]]
    if front is None:
        return False
    if front[0] == "endless":
        return pairs == [] and list(thing["potentials"]) == []
    if front[0] == "at" and (len(pairs) != 1 or worth(pairs[0], front[1]) != front[2]) or front[0] == "over" and tuple(pairs) != front[3]:
        return False
    if len(thing["potentials"]) != len(critical(front)):
        return False
    for price, item in zip(critical(front), thing["potentials"]):
        if type(item) is not tuple or len(item) != 2 or repr(item[0]) != repr(price):
            return False
        if not is_potential_by_words(one, other, begun, price, item[1]) or item[1][begun] != at_price(front, price):
            return False
    return True


class Excesses(unittest.TestCase):
    def test_by_hand(self):
        m, n = one_state((2, 0)), one_state((0, 3))
        self.assertEqual(likeness(m, n, 0, 0), ("at", (3, 2)))
        self.assertEqual(excess_front(m, n, 0, 0), ("over", (3, 2), (0, 1), ((0, 0),)))
        self.assertEqual(both_ways(self, gain, one=m, other=n, state=0, against=0, ring=((), ("a",))), (2, -3))
        late, once = cache("last", 1, 2, "late"), cache("last", 1, 2, "once")
        self.assertEqual(excess_front(late, once, 0, 0), ZERO)
        self.assertEqual(excess_front(once, late, 0, 0), ("at", (1, 0), 0))
        self.assertEqual(gain(once, late, 0, 0, (("A",), ("A",))), (0, 1))
        self.assertEqual(excess_front(one_state((1, 1)), one_state((0, 0)), 0, 0), ("endless",))
        self.assertEqual(excess_front(one_state((1, -1), (-1, 1)), one_state((0, 0), (0, 0)), 0, 0), ("at", (1, 1), 0))
        # A word can be paid once only: from a held against nothing held.
        self.assertEqual(excess_front(late, late, 1, 0), ("over", (1, 0), (0, 1), ((0, 1),)))
        self.assertEqual(excess_front(late, late, 0, 1), front_of([(1, 0)]))

    def test_drawn(self):
        kinds = {}
        for drawing, one, other, state, against in drawn_pairs(311, 120):
            case = {"one": one, "other": other, "state": state, "against": against}
            front = both_ways(self, excess_front, **case)
            for price in some_prices()[::3]:
                right = greatest(one, other, (state, against), price)[(state, against)]
                self.assertEqual(at_price(front, price), "endless" if right == INFINITE else right)
            for word in words(one.letters, 5):
                pair = excess(one, other, state, against, word)
                for price in some_prices()[::5]:
                    self.assertTrue(at_price(front, price) == "endless" or worth(pair, price) <= at_price(front, price))
            self.assertEqual(front, loss(one, other, free(one.letters), state, against))
            program = drawing.program(2, 2, one.letters)
            self.assertIs(is_below(loss(one, other, program, state, against), front), True)
            over = whole(one, program, state, tuple(range(len(one))))
            under = whole(other, program, against, tuple(range(len(other))))
            self.assertIs(is_below(over, summed(front, under)), True)
            back = excess_front(other, one, against, state)
            self.assertIs(front == back == ZERO, likeness(*case.values()) == ("all",))
            kind = front[0] if front[0] != "over" else len(front[3])
            kinds[kind] = kinds.get(kind, 0) + 1
        self.assertGreater(min(kinds[kind] for kind in ("endless", "at", 1, 2)), 3)

    def test_a_third_memory(self):
        drawing = Drawing(312)
        below = 0
        for _ in range(60):
            one, other, third = [drawing.memory(1 + drawing.below(2), 2, 1) for _ in range(3)]
            s, t, u = [drawing.below(len(memory)) for memory in (one, other, third)]
            both = summed(excess_front(one, other, s, t), excess_front(other, third, t, u))
            self.assertIs(is_below(excess_front(one, third, s, u), both), True)
            below += both != ("endless",)
        self.assertGreater(below, 3)

    def test_behind_a_word_that_settles(self):
        late = cache("last", 2, 2, "late")
        word = settling(late)
        for state in range(len(late)):
            for further in words(late.letters, 2):
                self.assertEqual(excess(late, late, state, 0, word + further), excess(late, late, state, 0, word))

    def test_2000_pairs(self):
        one, other = ring(40, (1, 0)), ring(49, (1, 0))
        self.assertEqual(excess_front(one, other, 0, 0), ZERO)
        self.assertIs(is_excess_showing(one, other, 0, 0, excess_showing(one, other, 0, 0)), True)
        self.assertEqual(len(excess_showing(one, other, 0, 0)["potentials"][0][1]), 1960)
        # 40 times 50 pairs of states are 2000, but in rings of 43 and 47 all 2021 pairs are come to.
        both = Memory(("a", "b"), tuple((((state + 1) % 40, 0, 0), (state, 0, 0)) for state in range(40)))
        more = Memory(("a", "b"), tuple((((state + 1) % 50, 0, 0), ((state + 1) % 50, 0, 0)) for state in range(50)))
        self.assertEqual(excess_front(both, more, 0, 0), ZERO)
        self.assertEqual(len(excess_showing(both, more, 0, 0)["potentials"][1][1]), 2000)
        for function in (excess_front, excess_showing):
            caught(self, TooMany, {"most": 2000}, function, ring(43, (0, 0)), ring(47, (0, 0)), 0, 0)
            caught(self, TooMany, {"most": 2000}, function, ring(23, (0, 0)), ring(87, (0, 0)), 0, 0)
        # What is shown is judged, whatever its size.
        potential = {(s, t): 0 for s in range(43) for t in range(47)}
        thing = {"front": ZERO, "words": [()], "rings": [], "potentials": [((1, 0), potential), ((0, 1), potential)]}
        self.assertIs(is_excess_showing(ring(43, (0, 0)), ring(47, (0, 0)), 0, 0, thing), True)
        self.assertIs(is_potential(ring(43, (0, 0)), ring(47, (0, 0)), 0, 0, (1, 1), potential), True)
        del potential[(42, 46)]
        self.assertIs(is_excess_showing(ring(43, (0, 0)), ring(47, (0, 0)), 0, 0, thing), False)

    def test_long_rings(self):
        # The round of 11 * 13 letters gains (1, -1) in all.
        one = Memory(("a",), tuple((((state + 1) % 11, 6 if state == 0 else 0, 5 if state == 7 else 0),) for state in range(11)))
        other = Memory(("a",), tuple((((state + 1) % 13, 7 if state == 3 else 0, 6 if state == 1 else 0),) for state in range(13)))
        shown = excess_showing(one, other, 0, 0)
        self.assertEqual(shown["front"][:3], ("over", (1, 1), (0, 1)))
        self.assertEqual(len(shown["rings"][0][1]), 143)
        self.assertEqual(gain(one, other, 0, 0, shown["rings"][0]), (1, -1))
        self.assertIs(is_excess_showing(one, other, 0, 0, shown), True)
        self.assertTrue(is_showing_by_words(one, other, (0, 0), shown))


class Showings(unittest.TestCase):
    def judge(self, one, other, begun, thing):
        right = is_showing_by_words(one, other, begun, thing)
        kept = repr(thing)
        self.assertIs(is_excess_showing(one, other, begun[0], begun[1], thing), right, thing)
        self.assertEqual(repr(thing), kept)
        return right

    def test_drawn(self):
        kinds = {}
        for _, one, other, state, against in drawn_pairs(313, 120):
            case = {"one": one, "other": other, "state": state, "against": against}
            thing = both_ways(self, excess_showing, **case)
            self.assertIs(both_ways(self, is_excess_showing, **case, thing=thing), True)
            self.assertTrue(is_showing_by_words(one, other, (state, against), thing))
            self.assertEqual(thing["front"], excess_front(*case.values()))
            self.assertEqual(list(thing), sorted(thing))
            for price, potential in thing["potentials"]:
                self.assertEqual(list(potential), sorted(potential))
                self.assertIs(both_ways(self, is_potential, **case, price=price, thing=potential), True)
            self.assertTrue(self.judge(one, other, (state, against), {key: tuple(thing[key]) if key != "front" else thing[key] for key in thing}))
            kinds[thing["front"][0]] = kinds.get(thing["front"][0], 0) + 1
            thing["words"].clear()
            thing["rings"].clear()
            for _, potential in thing["potentials"]:
                potential.clear()
            self.assertIs(is_excess_showing(*case.values(), excess_showing(*case.values())), True)
        self.assertGreater(min(kinds.values()), 10)
        self.assertEqual(len(kinds), 3)

    def test_one_thing_otherwise(self):
        judged = {True: 0, False: 0}
        late, once = cache("last", 1, 1, "late"), cache("last", 1, 1, "once")
        for one, other in [(late, once), (once, late), (one_state((2, 0)), one_state((0, 3))), (one_state((1, 1)), one_state((0, 0))),
                           (one_state((2, -1), (-1, 2)), one_state((0, 0), (0, 0))), (one_state((1, -1), (-1, 1)), one_state((0, 0), (0, 0)))]:
            for state in range(len(one)):
                thing = excess_showing(one, other, state, 0)
                for changed in mutants(thing):
                    judged[self.judge(one, other, (state, 0), changed)] += 1
        self.assertGreater(min(judged.values()), 30)

    def test_two_rings_or_one(self):
        one, other = one_state((1, 1), (-1, -1), (2, -1), (-1, 2)), one_state((0, 0), (0, 0), (0, 0), (0, 0))
        a, b, c, d = [((), (letter,)) for letter in "abcd"]
        for rings, right in [([a], True), ([a, b], True), ([b, a], True), ([b], False), ([c, d], True), ([d, c], True), ([c], False), ([d], False),
                             ([c, b], False), ([a, a], True), ([a, c, d], False), ([], False), ([a, ((), ())], False), ((a,), True), ([list(a)], False)]:
            thing = {"front": ("endless",), "words": [], "potentials": [], "rings": rings}
            self.assertIs(self.judge(one, other, (0, 0), thing), right, rings)

    def test_potentials(self):
        judged = {True: 0, False: 0}
        for drawing, one, other, state, against in drawn_pairs(314, 80):
            price = drawing.price()
            right = greatest(one, other, (state, against), price)
            if INFINITE in right.values():
                continue
            for _ in range(8):
                more = drawing.below(3)
                thing = {pair: number + more + (drawing.below(6) == 0) for pair, number in right.items()}
                if drawing.below(4) == 0:
                    thing[(drawing.below(3), drawing.below(3))] = drawing.below(9)
                is_so = is_potential_by_words(one, other, (state, against), price, thing)
                self.assertIs(is_potential(one, other, state, against, price, thing), is_so)
                judged[is_so] += 1
        self.assertGreater(min(judged.values()), 30)
        for thing, is_so in [({(0, 0): 0}, True), ({(0, 0): 7}, True), ({(0, 0): -1}, False), ({(0, 0): True}, False), ({(False, 0): 0}, False),
                             ({(0, 0): 0, (0, 1): 0}, False), ({}, False), ({(0, 0): 0, "x": 0}, False), ({(0, 0): None}, False), ([((0, 0), 0)], False)]:
            self.assertIs(is_potential(one_state((0, 0)), one_state((0, 0)), 0, 0, (1, 0), thing), is_so, thing)
        for thing in any_values():
            self.assertIs(is_potential(one_state((0, 0)), one_state((0, 0)), 0, 0, (1, 0), thing), False)
            self.assertIs(is_excess_showing(one_state((0, 0)), one_state((0, 0)), 0, 0, thing), False)


class Beginnings(unittest.TestCase):
    def test_against_all_pairs(self):
        drawing = Drawing(315)
        for _ in range(60):
            memory = drawing.memory(1 + drawing.below(4), 2, 1)
            front = None
            for s in range(len(memory)):
                for t in range(len(memory)):
                    front = joined(front, excess_front(memory, memory, s, t))
            self.assertEqual(both_ways(self, beginnings, memory=memory), front)
        self.assertEqual(beginnings(cache("last", 1, 2, "late")), front_of([(1, 1)]))

    def test_2000_pairs(self):
        self.assertEqual(beginnings(ring(44, (3, 4))), ZERO)
        caught(self, TooMany, {"most": 2000}, beginnings, ring(45, (3, 4)))


class WrongValues(unittest.TestCase):
    def test_errors(self):
        good = {"one": ring(2, (1, 1), "ab"), "other": ring(3, (1, 1), "ab"), "state": 0, "against": 0}
        wrong = {**wrong_two(), **wrong_values(("price", "price"))}
        wrong["ring"] = [(thing, BadRing, {}) for thing in any_values() + [
            ((), ()), ((), ("a",)), ((), ("a",) * 4), (("a",), ["a"] * 6), [(), ("a",) * 6], ((), ("a",) * 6, ()), ((), ("c",)), (("c",), ("a",) * 6),
            ("", ("a",) * 6), ((), "aaaaaa")]]
        for function in (excess_front, excess_showing):
            refuses(self, function, good, wrong)
        refuses(self, gain, {**good, "ring": ((), ("a",) * 6)}, wrong)
        for name in good:
            for thing, error, attributes in wrong[name]:
                caught(self, error, attributes, is_excess_showing, **{**good, name: thing}, thing=None)
                caught(self, error, attributes, is_potential, **{**good, name: thing}, price=None, thing=None)
        for thing, error, attributes in wrong["price"]:
            caught(self, error, attributes, is_potential, **good, price=thing, thing=None)
        refuses(self, beginnings, {"memory": ring(2, (1, 1))}, wrong_values(("memory", "memory")))
        caught(self, BadMemory, {"part": "letters"}, excess_front, ring(43, (0, 0)), ring(47, (0, 0), "b"), 0, 0)
        self.assertTrue(NOT_NUMBERS)


if __name__ == "__main__":
    unittest.main()
