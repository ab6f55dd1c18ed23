"""[101] settling, unsettled, is_unsettled, with [3] and [5]."""

import unittest
from itertools import product

from drawing import Drawing, any_values, both_ways, caught, refuses, wrong_values
from hitclocks.alike import likeness
from hitclocks.caches import cache
from hitclocks.errors import BadMemory, TooMany
from hitclocks.excesses import excess_front
from hitclocks.fronts import front_of
from hitclocks.memories import Memory, read
from hitclocks.settling import is_unsettled, settling, unsettled
from reference import mutants
from test_alike import words


def alike_table(memory):
    """For each pair of states whether they are alike for all words."""
    states = range(len(memory))
    return {(s, t): likeness(memory, memory, s, t) == ("all",) for s, t in product(states, states)}


def settles(memory, alike, word):
    ends = {read(memory, state, word)[0] for state in range(len(memory))}
    return all(alike[pair] for pair in product(ends, ends))


def is_list_of_pairs(memory, alike, thing):
    """As is_unsettled, by the words of the document."""
    if type(thing) not in (list, tuple) or not thing:
        return False
    for pair in thing:
        if type(pair) is not tuple or len(pair) != 2 or any(type(state) is not int for state in pair):
            return False
        if not 0 <= pair[0] < pair[1] < len(memory) or alike[pair]:
            return False
    for s, t in thing:
        for one, other in zip(memory.moves[s], memory.moves[t]):
            if tuple(sorted((one[0], other[0]))) not in [tuple(pair) for pair in thing]:
                return False
    return True


def ring(states, unlike):
    """States in a ring; so many of them pay their own number."""
    return Memory(("a",), tuple((((state + 1) % states, state if state < unlike else 0, 0),) for state in range(states)))


def long_way(states):
    """A letter that leads round, and one that brings two states together: the shortest word has (states - 1) ** 2 letters."""
    rows = []
    for state in range(states):
        rows.append((((state + 1) % states, state, 0), (0 if state == states - 1 else state, 0, 0)))
    return Memory(("a", "b"), tuple(rows))


class Settling(unittest.TestCase):
    def test_by_hand(self):
        self.assertEqual(settling(cache("last", 1, 2, "late")), ("A",))
        self.assertIsNone(unsettled(cache("last", 1, 2, "late")))
        self.assertEqual(settling(Memory(("a",), (((0, 5, 5),),))), ())
        # All states pay the same: nothing has to be read, however many there are.
        self.assertEqual(settling(ring(120, 0)), ())
        self.assertEqual(settling(ring(7, 0)), ())
        self.assertIsNone(settling(ring(2, 2)))
        self.assertEqual(unsettled(ring(2, 2)), [(0, 1)])
        # b is as short as c, and ahead of it; a does nothing.
        reset = Memory(("a", "b", "c"), (((0, 0, 0), (0, 1, 0), (0, 0, 0)), ((1, 0, 0), (0, 0, 0), (0, 0, 0))))
        self.assertEqual(settling(reset), ("b",))

    def test_12_classes_and_13(self):
        self.assertIsNone(settling(ring(12, 12)))
        caught(self, TooMany, {"most": 12}, settling, ring(13, 13))
        caught(self, TooMany, {"most": 12}, settling, long_way(13))
        for states in (2, 3, 4, 12):
            word = settling(long_way(states))
            self.assertEqual(len(word), (states - 1) ** 2)
            self.assertEqual(len({read(long_way(states), state, word)[0] for state in range(states)}), 1)
        # 24 states, each alike to another one, are 12 of which no two are alike.
        double = Memory(("a",), tuple((((state + 1) % 24, state % 12, 0),) for state in range(24)))
        self.assertIsNone(settling(double))
        self.assertIs(is_unsettled(double, unsettled(double)), True)
        # unsettled and is_unsettled have no such limit.
        self.assertIs(is_unsettled(ring(40, 40), unsettled(ring(40, 40))), True)
        self.assertIsNone(unsettled(long_way(14)))
        self.assertIs(is_unsettled(long_way(14), [(0, 1)]), False)

    def test_against_all_words(self):
        drawing = Drawing(301)
        seen = {}
        for _ in range(250):
            memory = drawing.memory(1 + drawing.below(5), 2, drawing.below(2))
            alike = alike_table(memory)
            word = both_ways(self, settling, memory=memory)
            shown = both_ways(self, unsettled, memory=memory)
            short = [one for one in words(memory.letters, 6) if settles(memory, alike, one)]
            self.assertIs(word is None, shown is not None)
            if word is None:
                self.assertEqual(short, [])
                self.assertIs(both_ways(self, is_unsettled, memory=memory, thing=shown), True)
                self.assertTrue(is_list_of_pairs(memory, alike, shown))
                self.assertIs(type(shown), list)
                shown.clear()
                self.assertNotEqual(unsettled(memory), [])
            else:
                self.assertTrue(settles(memory, alike, word))
                self.assertEqual(short[:1], [word] if len(word) <= 6 else [])
                for state in range(len(memory)):
                    longer = word + tuple(drawing.pick(memory.letters) for _ in range(3))
                    one, other = read(memory, state, longer)[1], read(memory, 0, longer)[1]
                    first, second = read(memory, state, word)[1], read(memory, 0, word)[1]
                    self.assertEqual((one[0] - other[0], one[1] - other[1]), (first[0] - second[0], first[1] - second[1]))
            length = None if word is None else len(word)
            seen[length] = seen.get(length, 0) + 1
        self.assertGreater(len(seen), 4)
        self.assertGreater(seen[None], 10)

    def test_what_is_judged(self):
        drawing = Drawing(302)
        judged = {True: 0, False: 0}
        for _ in range(60):
            memory = drawing.memory(2 + drawing.below(4), 2, 1)
            alike = alike_table(memory)
            pairs = [(s, t) for s in range(len(memory)) for t in range(s + 1, len(memory))]
            things = [[drawing.pick(pairs) for _ in range(1 + drawing.below(5))] for _ in range(10)] + [pairs, tuple(pairs[::-1]), pairs + pairs]
            shown = unsettled(memory)
            if shown is not None:
                things += [shown, tuple(shown), shown[::-1], shown + shown[:1]] + list(mutants(shown))
            for thing in things:
                kept = repr(thing)
                right = is_list_of_pairs(memory, alike, thing)
                self.assertIs(is_unsettled(memory, thing), right, thing)
                self.assertEqual(repr(thing), kept)
                judged[right] += 1
        self.assertGreater(min(judged.values()), 60)
        for thing in any_values():
            self.assertIs(is_unsettled(ring(2, 2), thing), False)
        for thing, right in [([(0, 1)], True), (((0, 1),), True), ([(0, 1), (0, 1)], True), ([], False), ([[0, 1]], False), ([(False, 1)], False),
                             ([(0, True)], False), ([(1, 0)], False), ([(0, 0)], False), ([(0, 2)], False), ({(0, 1): 1}, False)]:
            self.assertIs(is_unsettled(ring(2, 2), thing), right, thing)

    def test_a_word_that_settles_leaves_no_excess_behind_it(self):
        # Over itself from any two states, the words behind a word that settles cost no more.
        late = cache("last", 2, 2, "late")
        word = settling(late)
        for s in range(len(late)):
            for t in range(len(late)):
                self.assertEqual(excess_front(late, late, read(late, s, word)[0], read(late, t, word)[0]), front_of([(0, 0)]))

    def test_wrong_values(self):
        for function in (settling, unsettled):
            refuses(self, function, {"memory": ring(2, 2)}, wrong_values(("memory", "memory")))
        for thing in any_values():
            if not isinstance(thing, Memory):
                caught(self, BadMemory, {"part": None}, is_unsettled, thing, [])


if __name__ == "__main__":
    unittest.main()
