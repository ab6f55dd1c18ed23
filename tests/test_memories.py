"""[20] memories, with [3] and [5]."""

import unittest

from drawing import Drawing, any_values, both_ways, caught, simple_memory
from hitclocks.errors import BadLetter, BadMemory, BadNames, BadState, BadWord
from hitclocks.memories import Memory, negated, read, relettered, stepped

MEMORY = Memory(("A", "b"), (((1, 2, 3), (0, -1, 0)), ((1, 0, 0), (0, 5, -5))))
WRONG_LETTERS = [(), ["a"], ("b", "a"), ("a", "a"), ("",), ("a_",), ("a" * 13,), ("a b",), (1,), (None,), "a", None,
                 ("\u00e4",), ("a", ("b",))]


def letters_of_many(many):
    return tuple(sorted("l" + str(number) for number in range(many)))


class Making(unittest.TestCase):
    def test_attributes(self):
        memory = both_ways(self, Memory, letters=("a",), moves=(((0, 1, 2),),))
        self.assertEqual((memory.letters, memory.moves, len(memory)), (("a",), (((0, 1, 2),),), 1))
        self.assertEqual(len(MEMORY), 2)

    def test_equal_if_both_are(self):
        self.assertEqual(MEMORY, Memory(MEMORY.letters, MEMORY.moves))
        self.assertNotEqual(MEMORY, Memory(("A", "c"), MEMORY.moves))
        self.assertNotEqual(MEMORY, Memory(MEMORY.letters, MEMORY.moves[:1] + (((1, 0, 1), (0, 5, -5)),)))
        for thing in any_values():
            if not isinstance(thing, Memory):
                self.assertFalse(MEMORY == thing)
                self.assertTrue(MEMORY != thing)

    def test_cannot_be_iterated_over(self):
        with self.assertRaises(TypeError):
            iter(MEMORY)
        with self.assertRaises(TypeError):
            list(MEMORY)

    def test_letters(self):
        for wrong in WRONG_LETTERS:
            caught(self, BadMemory, {"part": "letters"}, Memory, wrong, ())
        for letter in ["a", "Z", "0", ".", "a" * 12, "aZ09.aZ09.aZ"]:
            self.assertEqual(Memory((letter,), (((0, 0, 0),),)).letters, (letter,))

    def test_72_letters_and_73(self):
        letters = letters_of_many(73)
        self.assertEqual(len(Memory(letters[:72], (((0, 0, 0),) * 72,)).letters), 72)
        caught(self, BadMemory, {"part": "letters"}, Memory, letters, (((0, 0, 0),) * 73,))

    def test_120_states_and_121(self):
        self.assertEqual(len(Memory(("a",), (((119, 0, 0),),) * 120)), 120)
        caught(self, BadMemory, {"part": "moves"}, Memory, ("a",), (((0, 0, 0),),) * 121)
        for wrong in [(), [((0, 0, 0),)], None, 3, "a", {}]:
            caught(self, BadMemory, {"part": "moves"}, Memory, ("a",), wrong)

    def test_moves(self):
        right = ((0, 0, 0), (1, 999, -999))
        self.assertEqual(len(Memory(("a", "b"), (right, right))), 2)
        wrong_moves = [(2, 0, 0), (-1, 0, 0), (0, 1000, 0), (0, 0, -1000), (True, 0, 0), (0, False, 0), (0, 0, None), (0, 0),
                       (0, 0, 0, 0), [0, 0, 0], None]
        for wrong in wrong_moves:
            caught(self, BadMemory, {"part": 1}, Memory, ("a", "b"), (right, ((0, 0, 0), wrong)))
            caught(self, BadMemory, {"part": 0}, Memory, ("a", "b"), (((0, 0, 0), wrong), (wrong, wrong)))
        for wrong in [((0, 0, 0),), right + right, list(right), None, 0]:
            caught(self, BadMemory, {"part": 1}, Memory, ("a", "b"), (right, wrong, wrong))


class Reading(unittest.TestCase):
    def test_stepped(self):
        self.assertEqual(both_ways(self, stepped, memory=MEMORY, state=0, letter="A"), (1, (2, 3)))
        self.assertEqual(stepped(MEMORY, 1, "b"), (0, (5, -5)))
        for wrong in ["a", "", None, 0, True, ("A",), ["A"], MEMORY]:
            caught(self, BadLetter, {}, stepped, MEMORY, 0, wrong)

    def test_read(self):
        self.assertEqual(both_ways(self, read, memory=MEMORY, state=0, word=("A", "A", "b")), (0, (7, -2)))
        self.assertEqual(read(MEMORY, 1, ()), (1, (0, 0)))
        self.assertEqual(read(MEMORY, 0, ("A", "b") * 1000), (0, (7000, -2000)))
        for wrong in ["A", ["A"], ("a",), ("A", 0), ("A", ["b"]), None, ("A", None), 3, {"A": 1}]:
            caught(self, BadWord, {}, read, MEMORY, 0, wrong)

    def test_read_is_steps(self):
        drawing = Drawing(21)
        for _ in range(60):
            memory = drawing.memory(1 + drawing.below(4), 1 + drawing.below(3), 9)
            word = tuple(drawing.pick(memory.letters) for _ in range(drawing.below(12)))
            start = state = drawing.below(len(memory))
            total = [0, 0]
            for letter in word:
                state, pair = stepped(memory, state, letter)
                total = [total[0] + pair[0], total[1] + pair[1]]
            self.assertEqual(read(memory, start, word), (state, tuple(total)))

    def test_the_leftmost_counts(self):
        for thing in any_values():
            if not isinstance(thing, Memory):
                caught(self, BadMemory, {"part": None}, stepped, thing, -1, "x")
                caught(self, BadMemory, {"part": None}, read, thing, -1, "x")
                caught(self, BadMemory, {"part": None}, negated, thing)
                caught(self, BadMemory, {"part": None}, relettered, thing, None)
        for wrong in [-1, 2, True, False, None, "0", (0,), [0]]:
            caught(self, BadState, {}, stepped, MEMORY, wrong, "x")
            caught(self, BadState, {}, read, MEMORY, wrong, "x")


class Changed(unittest.TestCase):
    def test_negated(self):
        self.assertEqual(both_ways(self, negated, memory=MEMORY),
                         Memory(("A", "b"), (((1, -2, -3), (0, 1, 0)), ((1, 0, 0), (0, -5, 5)))))
        drawing = Drawing(22)
        for _ in range(30):
            memory = drawing.memory(1 + drawing.below(4), 1 + drawing.below(4), 999)
            self.assertEqual(negated(negated(memory)), memory)

    def test_relettered(self):
        names = {"b": "A", "A": "b.9"}
        changed = both_ways(self, relettered, memory=MEMORY, names=names)
        self.assertEqual(names, {"b": "A", "A": "b.9"})
        self.assertEqual(changed, Memory(("A", "b.9"), (((0, -1, 0), (1, 2, 3)), ((0, 5, -5), (1, 0, 0)))))
        drawing = Drawing(23)
        for _ in range(40):
            memory = drawing.memory(1 + drawing.below(3), 4, 9)
            called = dict(zip(memory.letters, drawing.pick([("z", "y", "x", "w"), ("b", "a", "d", "c"), ("k", "m", "l", "n")])))
            changed = relettered(memory, called)
            for state in range(len(memory)):
                for letter in memory.letters:
                    self.assertEqual(stepped(changed, state, called[letter]), stepped(memory, state, letter))

    def test_wrong_names(self):
        wrong_names = [None, (), [("a", "x"), ("b", "y")], {}, {"a": "x"}, {"a": "x", "b": "x"}, {"a": "x", "c": "y"},
                       {"a": "x", "b": "y", "c": "z"}, {"a": "x", "b": 1}, {"a": "x", "b": ""}, {"a": "x", "b": "y" * 13},
                       {"a": "x", "b": None}, {"a": "x", "b": ["y"]}, {"a": "x", 0: "y"}, {"a": "x", "b": "_"}]
        for wrong in wrong_names:
            caught(self, BadNames, {}, relettered, simple_memory(), wrong)


if __name__ == "__main__":
    unittest.main()
