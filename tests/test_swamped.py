"""[83] swamped, [84] parted and reduced, with [3] and [4]."""

import unittest
from itertools import product

from breaks import broken_pairs, swamped_words
from drawing import both_ways, caught, numbers_beyond, program_of_heads, refuses, simple_program, wrong_values
from hitclocks.broken import broken
from hitclocks.errors import TooMany
from hitclocks.gaps import put_in, taken_out
from hitclocks.heads import heads
from hitclocks.programs import Program, is_word_of, letters_of, words_of
from hitclocks.swamped import parted, reduced, swamped
from reference import words_up_to
from test_broken import EMPTY, SILENT, X, drawn_pairs, ordered
from test_gaps import wrong_words

A = ("read", "a")
B = ("read", "b")
NOTHING = Program({"f": ("none",)}, "f")
PAIR = Program({"g": ("then", (("read", "x"), ("read", "y")))}, "g")


class Swamped(unittest.TestCase):
    def test_brackets(self):
        told = both_ways(self, swamped, program=NOTHING, intruder=PAIR)
        self.assertEqual(words_of(told, 4), [(), ("x", "y"), ("x", "x", "y", "y"), ("x", "y", "x", "y")])
        self.assertEqual([len([word for word in words_of(told, 10) if len(word) == length]) for length in range(0, 11, 2)],
                         [1, 1, 2, 5, 14, 42])

    def test_by_hand(self):
        one = Program({"f": ("then", (A, B))}, "f")
        self.assertEqual(words_of(swamped(one, X), 3), [("a", "b"), ("a", "b", "x"), ("a", "x", "b"), ("x", "a", "b")])
        for intruder in (EMPTY, SILENT):
            self.assertEqual(words_of(swamped(one, intruder), 5), [("a", "b")])
        self.assertEqual(words_of(swamped(SILENT, X), 5), [])
        self.assertEqual(words_of(swamped(NOTHING, Program({"f": A}, "f")), 3), [(), ("a",), ("a",) * 2, ("a",) * 3])

    def test_drawn(self):
        several = 0
        for drawing, program, intruder in drawn_pairs(181, 120):
            h, i = len(heads(program)), len(heads(intruder))
            words, inner = words_up_to(program, 4)[program.first], words_up_to(intruder, 4)[intruder.first]
            right = swamped_words(words, inner, 4)
            told = both_ways(self, swamped, program=program, intruder=intruder)
            self.assertEqual(words_of(told, 4), ordered(right))
            self.assertLessEqual(len(heads(told)), h + i + 3)
            self.assertLessEqual(set(letters_of(told)), set(letters_of(program) + letters_of(intruder)))
            if len(heads(told)) + i <= 61:
                self.assertEqual(words_of(swamped(told, intruder), 4), words_of(told, 4))
            for count in range(4):
                if (count + 1) * h + i <= 63:
                    self.assertLessEqual(set(words_of(broken(program, intruder, count), 4)), right)
            several += len(right) > len(words) + 3
        self.assertGreater(several, 40)

    def test_61_and_62(self):
        """h + i."""
        for h, i, right in [(1, 60, True), (60, 1, True), (30, 31, True), (1, 61, False), (61, 1, False), (31, 31, False)]:
            program, intruder = program_of_heads(h), program_of_heads(i)
            if right:
                told = swamped(program, intruder)
                self.assertLessEqual(len(heads(told)), h + i + 3)
                self.assertEqual(words_of(told, 2), [("a",), ("a", "a")])
            else:
                caught(self, TooMany, {"most": 64}, swamped, program, intruder)
                caught(self, TooMany, {"most": 64}, reduced, program, intruder, ("a",) * 9)
        loops = Program({"p" + str(number): ("any", A) for number in range(30)}, "p0")
        told = swamped(loops, Program({"g": B}, "g"))
        self.assertLessEqual(len(heads(told)), 64)
        self.assertEqual(len(words_of(told, 2)), 7)

    def test_wrong_values(self):
        refuses(self, swamped, {"program": simple_program(), "intruder": X}, wrong_values(("program", "program"), ("intruder", "program")))


def parted_by_words(own, inner, count, word):
    """The first of all lists of so many pieces that fits."""
    pieces = sorted((start, length) for start in range(len(word) + 1) for length in range(len(word) + 1 - start))
    for some in product(pieces, repeat=count):
        if all(one[0] + one[1] <= other[0] for one, other in zip(some, some[1:])):
            rest, breaks = taken_out(word, list(some))
            if rest in own and all(letters in inner for _, letters in breaks):
                return list(some)
    return None


def reduced_by_words(own, inner, word):
    """The first of all reductions, shorter and lesser ones first."""
    lists = [(word, [])]
    while lists:
        for left, pieces in lists:
            if left in own:
                return pieces
        lists = [(left[:start] + left[start + length:], pieces + [(start, length)]) for left, pieces in lists
                 for start in range(len(left)) for length in range(1, len(left) + 1 - start) if left[start:start + length] in inner]
    return None


class Back(unittest.TestCase):
    def test_parted_by_hand(self):
        program = Program({"f": ("then", (A, B))}, "f")
        both = Program({"g": ("either", (("read", "x"), ("none",), ("then", (("read", "x"), ("read", "x")))))}, "g")
        case = {"program": program, "intruder": both}
        self.assertEqual(both_ways(self, parted, **case, count=2, word=("a", "x", "x", "b")), [(0, 0), (1, 2)])
        self.assertEqual(parted(program, X, 2, ("a", "x", "x", "b")), [(1, 1), (2, 1)])
        self.assertEqual(parted(program, both, 1, ("a", "b")), [(0, 0)])
        self.assertEqual(parted(program, both, 3, ("a", "b", "x")), [(0, 0), (0, 0), (2, 1)])
        self.assertEqual(parted(program, both, 0, ("a", "b")), [])
        self.assertIsNone(parted(program, both, 0, ("a", "b", "x")))
        self.assertIsNone(parted(program, X, 1, ("a", "x", "x", "b")))
        self.assertIsNone(parted(program, SILENT, 1, ("a", "b")))
        self.assertEqual(parted(simple_program(), Program({"g": ("any", A)}, "g"), 1, ("a",) * 8), [(0, 8)])
        self.assertIsNone(parted(program, X, 1, ("zz.9",)))

    def test_reduced_by_hand(self):
        self.assertEqual(both_ways(self, reduced, program=NOTHING, intruder=PAIR, word=("x", "x", "y", "y", "x", "y")),
                         [(1, 2), (0, 2), (0, 2)])
        self.assertEqual(reduced(NOTHING, PAIR, ()), [])
        self.assertIsNone(reduced(NOTHING, PAIR, ("y", "x")))
        self.assertIsNone(reduced(NOTHING, PAIR, ("q",)))
        self.assertEqual(reduced(Program({"f": ("any", A)}, "f"), Program({"f": A}, "f"), ("a",) * 8), [])
        some = Program({"g": ("either", (A, ("then", (A, A, A))))}, "g")
        self.assertEqual(reduced(NOTHING, some, ("a",) * 4), [(0, 1), (0, 3)])
        self.assertEqual(reduced(NOTHING, EMPTY, ()), [])
        self.assertIsNone(reduced(NOTHING, EMPTY, ("a",)))

    def test_against_all_lists(self):
        found = {"parted": 0, "reduced": 0}
        for drawing, program, intruder in drawn_pairs(182, 60):
            h, i = len(heads(program)), len(heads(intruder))
            letters = letters_of(program) + letters_of(intruder) or ("a",)
            pairs = sorted(broken_pairs(program, intruder, 2, 5)) or [((), ())]
            own, inner = words_up_to(program, 5)[program.first], words_up_to(intruder, 5)[intruder.first]
            swarm = swamped(program, intruder)
            for _ in range(6):
                word = tuple(drawing.pick(letters) for _ in range(drawing.below(6))) if drawing.below(2) else drawing.pick(pairs)[1]
                for count in range(4):
                    if (count + 1) * h + i > 63:
                        continue
                    case = {"program": program, "intruder": intruder, "count": count, "word": word}
                    told = both_ways(self, parted, **case)
                    if len(word) <= 4 or count < 3:
                        self.assertEqual(told, parted_by_words(own, inner, count, word))
                    self.assertIs(told is None, not is_word_of(broken(program, intruder, count), word))
                    if told is not None:
                        rest, breaks = taken_out(word, told)
                        self.assertEqual(put_in(rest, breaks), word)
                        found["parted"] += 1
                told = both_ways(self, reduced, program=program, intruder=intruder, word=word)
                self.assertEqual(told, reduced_by_words(own, inner, word))
                self.assertIs(told is None, not is_word_of(swarm, word))
                found["reduced"] += bool(told)
        self.assertGreater(min(found.values()), 40)

    def test_8_letters_and_9(self):
        free = Program({"f": ("any", ("either", (A, B)))}, "f")
        self.assertEqual(parted(free, X, 1, ("a",) * 7 + ("x",)), [(7, 1)])
        caught(self, TooMany, {"most": 8}, parted, free, X, 1, ("a",) * 9)
        self.assertEqual(reduced(free, X, ("x",) * 8), [(0, 1)] * 8)
        caught(self, TooMany, {"most": 8}, reduced, free, X, ("a",) * 9)
        many, one = program_of_heads(40), program_of_heads(1)
        caught(self, TooMany, {"most": 64}, parted, many, one, 1, ("a",) * 9)
        caught(self, TooMany, {"most": 8}, parted, many, one, 0, ("a",) * 9)
        self.assertEqual(parted(many, one, 0, ("a",)), [])

    def test_wrong_values(self):
        wrong = {**wrong_values(("program", "program"), ("intruder", "program")), "count": numbers_beyond(0, 3), "word": wrong_words()}
        refuses(self, parted, {"program": simple_program(), "intruder": X, "count": 1, "word": ("x", "a", "b")}, wrong)
        refuses(self, reduced, {"program": simple_program(), "intruder": X, "word": ("x", "a", "b")}, wrong)
        first = parted(simple_program(), X, 1, ("x",))
        first.clear()
        self.assertEqual(parted(simple_program(), X, 1, ("x",)), [(0, 1)])


if __name__ == "__main__":
    unittest.main()
