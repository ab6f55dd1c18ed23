"""[81] broken, [82] places and broken_at, with [3] and [4]."""

import unittest

from breaks import broken_pairs, marked, pairs_at_place, reads_of
from drawing import Drawing, any_values, both_ways, caught, numbers_beyond, program_of_heads, refuses, simple_program, wrong_values
from hitclocks.broken import broken, broken_at, places
from hitclocks.errors import BadPlace, TooMany
from hitclocks.heads import heads
from hitclocks.lengths import longest
from hitclocks.prefixes import prefixes
from hitclocks.programs import Program, is_word_of, letters_of, never, words_of
from reference import words_up_to
from test_at_a_price import memory_of

A = ("read", "a")
B = ("read", "b")
X = Program({"g": ("read", "x")}, "g")
SILENT = Program({"g": ("call", "g")}, "g")
EMPTY = Program({"g": ("none",)}, "g")


def ordered(words):
    return sorted(words, key=lambda word: (len(word), word))


def drawn_pairs(seed, many):
    drawing = Drawing(seed)
    for number in range(many):
        program = drawing.program(1 + drawing.below(2), 3, ("a", "b"))
        intruder = drawing.program(1 + drawing.below(2), 2, (("x", "y"), ("a", "b"), ("x", "a"))[number % 3])
        yield drawing, program, intruder


class Broken(unittest.TestCase):
    def test_by_hand(self):
        program = Program({"f": ("then", (A, B))}, "f")
        once = both_ways(self, broken, program=program, intruder=X, count=1)
        self.assertEqual(words_of(once, 6), [("a", "b", "x"), ("a", "x", "b"), ("x", "a", "b")])
        self.assertEqual(words_of(broken(program, X, 0), 6), [("a", "b")])
        self.assertEqual(words_of(broken(program, X, 3), 4), [])
        self.assertEqual(len(words_of(broken(program, X, 3), 6)), 10)
        self.assertEqual(words_of(broken(Program({"f": ("none",)}, "f"), X, 3), 6), [("x",) * 3])
        for count in range(4):
            self.assertEqual(words_of(broken(program, EMPTY, count), 6), [("a", "b")])
            self.assertEqual(words_of(broken(program, SILENT, count), 6), [] if count else [("a", "b")])
            self.assertEqual(words_of(broken(SILENT, X, count), 6), [])
        self.assertEqual(words_of(broken(Program({"f": A}, "f"), Program({"f": ("either", (("none",), A))}, "f"), 2), 5),
                         [("a",), ("a",) * 2, ("a",) * 3])

    def test_each_kind_of_body(self):
        """All words of up to seven letters, for each count, against those of the breaks."""
        eight = ("then", (A, B, ("either", (A, ("none",))), ("times", 0, 1, B), ("none",), ("either", (("none",), A)), ("then", ()), B))
        for body in [("none",), A, ("then", ()), ("either", ()), ("times", 0, 0, A), ("times", 0, 1, A), ("times", 1, 1, A),
                     ("times", 2, 4, A), ("times", 0, 5, ("either", (A, B))), ("times", 3, 3, ("then", (A, B))), ("any", A),
                     ("any", ("then", (A, B))), ("any", ("either", (("none",), A))), eight, ("then", (A, ("either", ()))),
                     ("then", (("any", A), B, ("any", B))), ("any", ("any", A)), ("times", 0, 3, ("call", "f")), ("times", 0, 2, ("either", ())),
                     ("times", 1, 2, ("either", ())), ("any", ("either", ())), ("either", (A, ("then", (A, ("call", "f"), B)), ("either", ()))),
                     ("then", (("times", 2, 3, ("either", (A, ("none",)))), ("times", 0, 2, B)))]:
            program = Program({"f": body}, "f")
            for count in range(4):
                right = {word for _, word in broken_pairs(program, X, count, 6)}
                self.assertEqual(words_of(broken(program, X, count), 6), ordered(right), (body, count))

    def test_drawn(self):
        several = 0
        for drawing, program, intruder in drawn_pairs(171, 70):
            h, i = len(heads(program)), len(heads(intruder))
            for count in range(4):
                if (count + 1) * h + i > 63:
                    continue
                right = {word for _, word in broken_pairs(program, intruder, count, 4)}
                told = both_ways(self, broken, program=program, intruder=intruder, count=count)
                self.assertEqual(words_of(told, 4), ordered(right))
                self.assertLessEqual(len(heads(told)), (count + 2) * h + i + 1)
                self.assertLessEqual(set(letters_of(told)), set(letters_of(program) + letters_of(intruder)))
                for word in right:
                    self.assertIs(is_word_of(told, word), True)
                several += count > 1 and len(right) > 3
        self.assertGreater(several, 30)

    def test_broken_again(self):
        done = 0
        for drawing, program, intruder in drawn_pairs(172, 60):
            first, second = drawing.below(3), drawing.below(2)
            once = broken(program, intruder, first) if (first + 1) * len(heads(program)) + len(heads(intruder)) <= 63 else None
            if once is None or (second + 1) * len(heads(once)) + len(heads(intruder)) > 63:
                continue
            if first + second == 3 or (first + second + 1) * len(heads(program)) + len(heads(intruder)) <= 63:
                both = words_of(broken(program, intruder, first + second), 4)
                self.assertLessEqual(set(both), set(words_of(broken(once, intruder, second), 4)))
                done += 1
        self.assertGreater(done, 20)
        # The converse fails where what came in is broken itself.
        pair = Program({"g": ("then", (("read", "x"), ("read", "y")))}, "g")
        empty = Program({"f": ("none",)}, "f")
        self.assertIs(is_word_of(broken(broken(empty, pair, 1), pair, 1), ("x", "x", "y", "y")), True)
        self.assertIs(is_word_of(broken(empty, pair, 2), ("x", "x", "y", "y")), False)

    def test_63_and_64(self):
        """(count + 1) * h + i."""
        for h, i, count, right in [(31, 1, 1, True), (31, 2, 1, False), (62, 1, 0, True), (63, 1, 0, False), (20, 3, 2, True),
                                   (20, 4, 2, False), (15, 3, 3, True), (15, 4, 3, False), (1, 59, 3, True), (1, 60, 3, False),
                                   (1, 62, 0, True), (1, 63, 0, False)]:
            program, intruder = program_of_heads(h), program_of_heads(i)
            if right:
                told = broken(program, intruder, count)
                self.assertLessEqual(len(heads(told)), (count + 2) * h + i + 1)
                self.assertLessEqual(len(told.procedures), 64)
                self.assertEqual(words_of(told, 6), [("a",) * (count + 1)])
            else:
                caught(self, TooMany, {"most": 64}, broken, program, intruder, count)
        rings = {"p" + str(number): ("either", (("then", (A, ("any", ("call", "p" + str((number + 1) % 7))))), B)) for number in range(7)}
        told = broken(Program(rings, "p0"), Program({"g": ("any", ("either", (("call", "g"), A)))}, "g"), 3)
        self.assertLessEqual(len(heads(told)), 5 * 14 + 2 + 1)
        self.assertIs(is_word_of(told, ("a", "a", "b")), True)
        deep = prefixes(prefixes(prefixes(simple_program())))
        right = {word for _, word in broken_pairs(deep, X, 2, 5)}
        self.assertEqual(words_of(broken(deep, X, 2), 5), ordered(right))

    def test_wrong_values(self):
        wrong = {**wrong_values(("program", "program"), ("intruder", "program")), "count": numbers_beyond(0, 3)}
        refuses(self, broken, {"program": simple_program(), "intruder": X, "count": 1}, wrong)


class Places(unittest.TestCase):
    def test_by_hand(self):
        self.assertEqual(both_ways(self, places, program=simple_program()), [(), ("f", (0, 0)), ("f", (0, 2))])
        told = both_ways(self, broken_at, program=simple_program(), intruder=X, place=("f", (0, 0)))
        self.assertEqual(words_of(told, 5), [("x", "a", "b"), ("a", "x", "a", "b", "b"), ("x", "a", "a", "b", "b")])
        self.assertEqual(words_of(broken_at(simple_program(), X, ()), 5), [("x",), ("a", "b", "x"), ("a", "a", "b", "b", "x")])
        self.assertEqual(words_of(broken_at(simple_program(), X, ("f", (0, 2))), 3), [("a", "x", "b")])
        found = places(simple_program())
        found.clear()
        self.assertEqual(len(places(simple_program())), 3)

    def test_used_reads(self):
        program = Program({
            "f": ("either", (("then", (A, ("call", "n"))), ("then", (("times", 0, 0, A), ("times", 0, 2, ("then", (B, ("call", "n")))), A)),
                             ("any", ("either", (("call", "g"), ("call", "n"), ("then", (B, ("either", ())))))))),
            "g": ("times", 1, 2, ("then", (("any", ("either", ())), ("either", (A, ("call", "g")))))),
            "h": ("then", (A, B)), "n": ("then", (A, ("call", "n")))}, "f")
        self.assertEqual(places(program), [(), ("f", (1, 2)), ("g", (0, 1, 0))])
        for first, right in [("g", [(), ("g", (0, 1, 0))]), ("h", [(), ("h", (0,)), ("h", (1,))]), ("n", [])]:
            self.assertEqual(places(Program(program.procedures, first)), right)
        self.assertEqual(places(Program({"f": A}, "f")), [(), ("f", ())])
        self.assertEqual(places(EMPTY), [()])
        self.assertEqual(places(SILENT), [])
        for low, right in [(0, [(), ("f", (0, 0)), ("f", (1,))]), (1, [(), ("f", (1,))])]:
            body = ("either", (("then", (A, ("times", low, 2, ("either", ())))), B))
            self.assertEqual(places(Program({"f": body}, "f")), right)
        self.assertEqual(places(Program({"f": ("then", (("call", "f"), A)), "a": A}, "f")), [])

    def test_drawn_places(self):
        unused = all_of_them = 0
        for drawing, program, intruder in drawn_pairs(173, 150):
            with_marks, names = marked(program)
            words = words_up_to(with_marks, 4)[program.first]
            used = {names[mark][0] for word in words for mark in word} | ({()} if words else set())
            told = places(program)
            self.assertLessEqual(used, set(told))
            self.assertEqual(told, sorted(told))
            if longest(memory_of(1, "ab"), program, 0, (0,)) in (None, 0, 1, 2, 3, 4):
                self.assertEqual(used, set(told))
                all_of_them += 1
            self.assertIs(told == [], program.first in never(program))
            unused += len(told) - 1 < len(reads_of(program))
        self.assertGreater(unused, 10)
        self.assertGreater(all_of_them, 30)

    def test_words_that_are_broken_at_a_place(self):
        several = 0
        for drawing, program, intruder in drawn_pairs(174, 80):
            h, i = len(heads(program)), len(heads(intruder))
            found = set()
            for place in places(program):
                told = both_ways(self, broken_at, program=program, intruder=intruder, place=place)
                right = {word for _, word in pairs_at_place(program, intruder, place, 4)}
                self.assertEqual(words_of(told, 4), ordered(right))
                self.assertLessEqual(len(heads(told)), 3 * h + i + 1)
                found |= right
                several += len(right) > 3
            self.assertEqual(words_of(broken(program, intruder, 1), 4), ordered(found))
        self.assertGreater(several, 60)

    def test_places_that_are_come_to_several_times(self):
        program = Program({"f": ("times", 2, 3, ("then", (A, ("any", B))))}, "f")
        for place in places(program):
            right = {word for _, word in pairs_at_place(program, X, place, 6)}
            self.assertEqual(words_of(broken_at(program, X, place), 6), ordered(right))
        self.assertEqual(words_of(broken_at(program, X, ("f", (0, 0))), 3), [("a", "x", "a"), ("x", "a", "a")])

    def test_63_and_64(self):
        """2 * h + i."""
        for h, i, right in [(31, 1, True), (31, 2, False), (1, 61, True), (1, 62, False), (30, 3, True)]:
            program, intruder = program_of_heads(h), program_of_heads(i)
            for place in places(program):
                if right:
                    told = broken_at(program, intruder, place)
                    self.assertLessEqual(len(heads(told)), 3 * h + i + 1)
                    self.assertLessEqual(len(told.procedures), 64)
                    self.assertEqual(words_of(told, 6), [("a", "a")])
                else:
                    caught(self, TooMany, {"most": 64}, broken_at, program, intruder, place)
            caught(self, BadPlace, {}, broken_at, program, intruder, ("a", (0,)))

    def test_wrong_values(self):
        program = Program({"f": ("then", (("times", 1, 2, ("either", (A, B))), ("times", 0, 0, A), ("either", (("call", "f"), ("none",)))))}, "f")
        self.assertEqual(places(program), [(), ("f", (0, 0, 0)), ("f", (0, 0, 1))])
        others = [thing for thing in any_values() if thing != ()] + [
            ("f", (1, 0)), ("f", (0, 0)), ("f", (0, 0, 2)), ("f", (2, 0)), ("f", (0, 0, True)), ("f", (False, 0, 0)), ["f", (0, 0, 0)],
            ("f", [0, 0, 0]), ("f", (0, 0, 0), 0), ("g", (0, 0, 0)), (("f",), (0, 0, 0)), ("f",), ("f", None), [], ("f", "000"), {}]
        wrong = {**wrong_values(("program", "program"), ("intruder", "program")), "place": [(thing, BadPlace, {}) for thing in others]}
        refuses(self, broken_at, {"program": program, "intruder": X, "place": ("f", (0, 0, 1))}, wrong)
        refuses(self, places, {"program": program}, wrong)
        for place in ((), ("g", ())):
            caught(self, BadPlace, {}, broken_at, SILENT, X, place)


if __name__ == "__main__":
    unittest.main()
