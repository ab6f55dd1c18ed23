"""[90] beside and sides, [91] respelled, with [3] and [5]."""

import unittest

from drawing import Drawing, any_values, both_ways, caught, refuses, simple_program, wrong_values
from hitclocks.errors import BadMemory, BadNames, TooMany
from hitclocks.memories import Memory, read
from hitclocks.prefixes import prefixes
from hitclocks.programs import Program, letters_of, words_of
from hitclocks.sides import beside, respelled, sides
from reference import words_up_to
from test_at_a_price import memory_of

A = ("read", "a")
B = ("read", "b")


def ring(states, pair, letters="a"):
    return Memory(tuple(letters), tuple(tuple(((state + 1) % states,) + pair for _ in letters) for state in range(states)))


def wrong_two():
    """Wrong values of beside and of all that has its parameters."""
    wrong = wrong_values(("one", "memory"), ("other", "memory"), ("state", "state"), ("against", "state"))
    wrong["other"] = wrong["other"] + [(memory_of(1, "a"), BadMemory, {"part": "letters"}), (memory_of(2, "abc"), BadMemory, {"part": "letters"})]
    return wrong


def wrong_alone():
    things = [thing for thing in any_values() if thing != {}] + [
        {"a": "b"}, {"a": "a"}, {"c": "d"}, {"a": "x", "b": "x"}, {"a": ""}, {"a": "x_"}, {"a": "x" * 13}, {"a": None}, {"a": 1}, {"a": ("x",)},
        {True: "x"}, {("a",): "x"}, {"a": "x", None: "y"}, [("a", "x")], {"a": True}, {"a": {}}]
    return [(thing, BadNames, {}) for thing in things]


class Beside(unittest.TestCase):
    def test_by_hand(self):
        one = Memory(("a", "b"), (((1, 5, 0), (0, 1, 1)), ((1, 2, 3), (0, 4, 4))))
        other = Memory(("a", "b"), (((0, 1, 1), (1, 0, 0)), ((0, 7, 7), (0, 9, 9))))
        case = {"one": one, "other": other, "state": 0, "against": 1, "alone": {"b": "Z"}}
        # The letters are Z, a, b; met are (0, 1), then (1, 0) by a, (0, 0) by b, (1, 1) by b behind (1, 0) is (0, 1), ..
        self.assertEqual(both_ways(self, sides, **case), [(0, 1), (1, 0), (0, 0)])
        self.assertEqual(both_ways(self, beside, **case), Memory(("Z", "a", "b"), (
            ((0, 1, 1), (1, -2, -7), (2, -8, -8)), ((2, 4, 4), (1, 1, 2), (0, 4, 4)), ((2, 1, 1), (1, 4, -1), (0, 1, 1)))))
        self.assertEqual(sides(one, other, 1, 0, {}), [(1, 0), (0, 1), (0, 0)])
        pairs = sides(*case.values())
        pairs.clear()
        self.assertEqual(len(sides(*case.values())), 3)
        self.assertEqual(case["alone"], {"b": "Z"})
        self.assertEqual(sides(one, one, 0, 0, {}), [(0, 0), (1, 1)])

    def test_what_words_pay(self):
        drawing = Drawing(201)
        most = 0
        for _ in range(80):
            one, other = drawing.memory(1 + drawing.below(4), 2, 5), drawing.memory(1 + drawing.below(4), 2, 5)
            state, against = drawing.below(len(one)), drawing.below(len(other))
            alone = drawing.pick([{}, {"a": "x"}, {"b": "B"}, {"b": "0", "a": "z"}])
            case = {"one": one, "other": other, "state": state, "against": against, "alone": alone}
            memory, pairs = both_ways(self, beside, **case), both_ways(self, sides, **case)
            self.assertEqual(memory.letters, tuple(sorted(one.letters + tuple(alone.values()))))
            self.assertEqual(len(memory), len(pairs))
            self.assertEqual(pairs[0], (state, against))
            self.assertEqual(len(set(pairs)), len(pairs))
            meets = [0]
            for row in memory.moves:
                for place, _, _ in row:
                    if place not in meets:
                        self.assertEqual(place, len(meets))
                        meets.append(place)
            self.assertEqual(len(meets), len(memory))
            names = {name: letter for letter, name in alone.items()}
            for _ in range(12):
                word = tuple(drawing.pick(memory.letters) for _ in range(drawing.below(9)))
                end, pair = read(memory, 0, word)
                first, paid = read(one, state, tuple(names.get(letter, letter) for letter in word))
                second, less = read(other, against, tuple(letter for letter in word if letter not in names))
                self.assertEqual(pairs[end], (first, second))
                self.assertEqual(pair, (paid[0] - less[0], paid[1] - less[1]))
            most = max(most, len(pairs))
        self.assertGreater(most, 8)

    def test_72_letters_and_73(self):
        letters = sorted("x" + str(number) for number in range(70))
        memory = Memory(tuple(letters), (tuple((0, 1, 1) for _ in letters),))
        for many, right in [(1, True), (2, True), (3, False)]:
            alone = {letter: letter + "y" for letter in letters[:many]}
            if right:
                self.assertEqual(len(beside(memory, memory, 0, 0, alone).letters), 70 + many)
                self.assertEqual(sides(memory, memory, 0, 0, alone), [(0, 0)])
            else:
                for function in (beside, sides):
                    caught(self, TooMany, {"most": 72}, function, memory, memory, 0, 0, alone)

    def test_120_states_and_121(self):
        for one, other, right in [(8, 15, True), (11, 11, True), (11, 12, False), (1, 120, True), (7, 20, False), (60, 60, True)]:
            case = (ring(one, (1, 0)), ring(other, (0, 1)), 0, 0, {})
            if right:
                self.assertEqual(len(beside(*case)), len(sides(*case)))
                self.assertEqual(len(sides(*case)), one if one == other else one * other)
            else:
                caught(self, TooMany, {"most": 120}, beside, *case)
                caught(self, TooMany, {"most": 120}, sides, *case)
        # Read alone, a letter leads to all pairs of states.
        self.assertEqual(len(sides(ring(10, (1, 0)), ring(10, (1, 0)), 0, 0, {"a": "x"})), 100)
        caught(self, TooMany, {"most": 120}, sides, ring(11, (1, 0)), ring(11, (1, 0)), 0, 0, {"a": "x"})

    def test_numbers_of_999_and_1000(self):
        for pair, other, most in [((999, 0), (0, 0), None), ((500, 0), (-499, 0), None), ((500, 0), (-500, 0), 999), ((0, -500), (0, 499), None),
                                  ((0, -500), (0, 500), 999), ((-999, 999), (1, 0), 999), ((1, 999), (1, -1), 999)]:
            case = (ring(1, pair), ring(1, other), 0, 0, {})
            if most is None:
                self.assertEqual(beside(*case).moves, (((0, pair[0] - other[0], pair[1] - other[1]),),))
                self.assertEqual(sides(*case), [(0, 0)])
            else:
                caught(self, TooMany, {"most": 999}, beside, *case)
                caught(self, TooMany, {"most": 999}, sides, *case)
        # In states that are not come to, numbers may be greater.
        far = Memory(("a",), (((0, 1, 1),), ((1, 999, 0),)))
        self.assertEqual(len(beside(far, ring(1, (-1, 0)), 0, 0, {})), 1)
        caught(self, TooMany, {"most": 999}, beside, far, ring(1, (-1, 0)), 1, 0, {})
        # Alone, a letter pays what it pays in the one.
        self.assertEqual(beside(ring(1, (999, -999)), ring(1, (999, -999)), 0, 0, {"a": "b"}).moves, (((0, 0, 0), (0, 999, -999)),))

    def test_which_reason_comes_first(self):
        letters = tuple(sorted("x" + str(number) for number in range(72)))
        big = Memory(letters, tuple(tuple(((state + 1) % 11, 900, 0) for _ in letters) for state in range(11)))
        other = Memory(letters, tuple(tuple(((state + 1) % 12, -900, 0) for _ in letters) for state in range(12)))
        small = Memory(letters, tuple(tuple(((state + 1) % 2, -900, 0) for _ in letters) for state in range(2)))
        caught(self, TooMany, {"most": 72}, beside, big, other, 0, 0, {"x0": "y"})
        caught(self, TooMany, {"most": 120}, beside, big, other, 0, 0, {})
        caught(self, TooMany, {"most": 999}, beside, big, small, 0, 0, {})

    def test_wrong_values(self):
        memory = memory_of(2, "ab")
        for function in (beside, sides):
            refuses(self, function, {"one": memory, "other": memory_of(3, "ab"), "state": 0, "against": 2, "alone": {"a": "x"}},
                    {**wrong_two(), "alone": wrong_alone()})
            caught(self, BadMemory, {"part": None}, function, memory, None, 0, 0, {})


class Respelled(unittest.TestCase):
    def test_by_hand(self):
        program = Program({"f": ("then", (A, ("any", B), ("times", 0, 2, ("call", "g")))), "g": ("either", (("read", "c"), ("none",))),
                           "h": ("read", "d")}, "f")
        told = both_ways(self, respelled, program=program, names={"a": "b", "b": "a", "c": "b", "d": "zz.9"})
        self.assertEqual(told, Program({"f": ("then", (B, ("any", A), ("times", 0, 2, ("call", "g")))), "g": ("either", (B, ("none",))),
                                        "h": ("read", "zz.9")}, "f"))
        self.assertEqual(letters_of(program), ("a", "b", "c", "d"))
        self.assertEqual(respelled(Program({"f": ("none",)}, "f"), {}), Program({"f": ("none",)}, "f"))
        self.assertEqual(respelled(simple_program(), {"a": "a", "b": "b"}), simple_program())

    def test_words(self):
        drawing = Drawing(202)
        for _ in range(60):
            program = drawing.program(2, 3, ("a", "b"))
            names = {letter: drawing.pick(("a", "b", "x")) for letter in letters_of(program)}
            told = words_up_to(respelled(program, names), 4)
            for name, words in words_up_to(program, 4).items():
                self.assertEqual(told[name], {tuple(names[letter] for letter in word) for word in words})
        heavy = prefixes(prefixes(Program({"f": ("times", 9, 9, ("then", (A,) * 8))}, "f")))
        self.assertEqual(words_of(respelled(heavy, {"a": "b"}), 2), [(), ("b",), ("b", "b")])

    def test_wrong_values(self):
        names = [thing for thing in any_values()] + [
            {"a": "x"}, {"a": "x", "b": "y", "c": "z"}, {"a": "x", "c": "y"}, {"a": "x", "b": ""}, {"a": "x", "b": None}, {"a": "x", "b": "y_"},
            {"a": "x", "b": "y" * 13}, {"a": "x", True: "y"}, [("a", "x"), ("b", "y")], {"a": "x", "b": ("y",)}, {("a",): "x", "b": "y"}]
        wrong = {**wrong_values(("program", "program")), "names": [(thing, BadNames, {}) for thing in names]}
        refuses(self, respelled, {"program": simple_program(), "names": {"a": "x", "b": "x"}}, wrong)


if __name__ == "__main__":
    unittest.main()
