"""[73] prefixes, suffixes, high_marks, with [3], [4] and [5]."""

import unittest

from drawing import Drawing, both_ways, caught, refuses, simple_memory, simple_program, wrong_values
from hitclocks.dearest import dearest, most_at
from hitclocks.errors import BadProgram, BadState, NoLetter, TooMany
from hitclocks.fronts import front_of, is_below
from hitclocks.heads import heads
from hitclocks.memories import Memory
from hitclocks.papers import paper, shown_most
from hitclocks.prefixes import high_marks, prefixes, suffixes
from hitclocks.programs import Program, is_word_of, never, turned_about, words_of
from hitclocks.showings import is_showing, showing
from hitclocks.tales import told
from hitclocks.wholes import whole
from reference import words_up_to
from test_at_a_price import drawn_cases, memory_of

A = ("read", "a")
B = ("read", "b")
NONE = ("none",)
NEVER = ("either", ())
MAYBE_A = ("either", (NONE, A))
MAYBE_B = ("either", (NONE, B))


def ways(*bodies):
    return ("either", bodies)


def row(*bodies):
    return ("then", bodies)


class ByTheWords(unittest.TestCase):
    def test_each_kind_of_body(self):
        loop, nothing = ("any", A), ("call", "n")
        for body, ahead, behind in [
                (NONE, NONE, NONE), (A, MAYBE_A, MAYBE_A), (NEVER, NEVER, NEVER), (nothing, NEVER, NEVER),
                (("call", "f"), NEVER, NEVER), (("call", "g"), ("call", "x1"), ("call", "x1")),
                (row(), NONE, NONE), (row(A), ways(row(MAYBE_A)), ways(row(MAYBE_A))),
                (row(A, B), ways(row(MAYBE_A), row(A, MAYBE_B)), ways(row(MAYBE_A, B), row(MAYBE_B))),
                (row(A, NONE, B), ways(row(MAYBE_A), row(A, NONE), row(A, NONE, MAYBE_B)),
                 ways(row(MAYBE_A, NONE, B), row(NONE, B), row(MAYBE_B))),
                (row(A, nothing), NEVER, NEVER), (row(A, ("times", 0, 1, nothing)), ways(row(MAYBE_A), row(A, NONE)),
                                                  ways(row(MAYBE_A, ("times", 0, 1, nothing)), row(NONE))),
                (ways(A, B), ways(MAYBE_A, MAYBE_B), ways(MAYBE_A, MAYBE_B)),
                (ways(A, nothing, NEVER), ways(MAYBE_A, NEVER, NEVER), ways(MAYBE_A, NEVER, NEVER)),
                (ways(nothing), NEVER, NEVER), (("times", 0, 0, A), NONE, NONE), (("times", 0, 3, nothing), NONE, NONE),
                (("times", 0, 0, nothing), NONE, NONE), (("times", 1, 3, nothing), NEVER, NEVER),
                (("times", 2, 3, A), ways(NONE, row(("times", 0, 2, A), MAYBE_A)), ways(NONE, row(MAYBE_A, ("times", 0, 2, A)))),
                (("times", 0, 1, A), ways(NONE, row(("times", 0, 0, A), MAYBE_A)), ways(NONE, row(MAYBE_A, ("times", 0, 0, A)))),
                (loop, ways(NONE, row(loop, MAYBE_A)), ways(NONE, row(MAYBE_A, loop))), (("any", nothing), NONE, NONE),
                (("any", row(A, B)), ways(NONE, row(("any", row(A, B)), ways(row(MAYBE_A), row(A, MAYBE_B)))),
                 ways(NONE, row(ways(row(MAYBE_A, B), row(MAYBE_B)), ("any", row(A, B)))))]:
            program = Program({"f": body, "g": A, "n": ("call", "n")}, "f")
            for function, right in [(prefixes, ahead), (suffixes, behind)]:
                begun = both_ways(self, function, program=program)
                self.assertEqual(begun.procedures, {
                    "f": body, "g": A, "n": ("call", "n"), "x0": right, "x1": MAYBE_A, "x2": NEVER}, body)
                self.assertEqual(begun.first, "x0")
                self.assertEqual(list(begun.procedures), sorted(begun.procedures))
            self.assertEqual(program.procedures["f"], body)

    def test_names_that_are_taken(self):
        program = Program({"x0": A, "x2": ("call", "b"), "b": ("call", "x0")}, "x2")
        begun = prefixes(program)
        # By ascending names: b has x1, x0 has x3, x2 has x4.
        self.assertEqual(begun, Program({"x0": A, "x2": ("call", "b"), "b": ("call", "x0"), "x1": ("call", "x3"), "x3": MAYBE_A,
                                         "x4": ("call", "x1")}, "x4"))

    def test_example(self):
        case = (simple_memory(), simple_program(), 0)
        self.assertEqual(whole(*case, (0,)), ("over", (3, 2), (0, 1), ((0, 0),)))
        self.assertEqual(both_ways(self, high_marks, memory=case[0], program=case[1], start=0), ("at", (0, 1), 0))
        ring = Program({"g": ("times", 0, 1, ("call", "g"))}, "g")
        body = ("either", (NONE, ("then", (("times", 0, 0, ("call", "g")), ("call", "x0")))))
        self.assertEqual(prefixes(ring), Program({"g": ring.procedures["g"], "x0": body}, "x0"))
        self.assertEqual(words_of(ring, 3), [()])
        self.assertEqual(words_of(prefixes(ring), 3), [()])

    def test_32_procedures_and_33(self):
        procedures = {"p" + str(number): A for number in range(32)}
        for function in (prefixes, suffixes):
            self.assertEqual(len(function(Program(procedures, "p0")).procedures), 64)
            caught(self, TooMany, {"most": 64}, function, Program({**procedures, "q": B}, "p0"))
        self.assertEqual(high_marks(memory_of(1), Program(procedures, "p0"), 0), front_of([(0, 0), (1, -1)]))
        caught(self, TooMany, {"most": 64}, high_marks, memory_of(1, "ab"), Program({**procedures, "q": B}, "p0"), 0)
        caught(self, BadState, {}, high_marks, memory_of(1, "ab"), Program({**procedures, "q": B}, "p0"), 1)
        caught(self, NoLetter, {"letter": "b"}, high_marks, memory_of(1), Program({**procedures, "q": B}, "p0"), 1)
        # More than 2000 triples of the program itself, and too many procedures: the latter is told first.
        caught(self, TooMany, {"most": 64}, high_marks, memory_of(8, "ab"), Program({**procedures, "q": B}, "p0"), 0)

    def test_2000_triples(self):
        # Of 4 heads and 15 states there are 900 triples, of the 8 heads of the prefixes 1800; of 16 states 1024 and 2048.
        program = Program({"f": A, "g": A, "h": A, "i": A}, "f")
        self.assertEqual(len(heads(prefixes(program))), 8)
        self.assertEqual(high_marks(memory_of(15), program, 0), front_of([(0, 0), (1, -1)]))
        caught(self, TooMany, {"most": 2000}, high_marks, memory_of(16), program, 0)

    def test_wrong_values(self):
        wrong = wrong_values(("memory", "memory"), ("program", "letters"), ("start", "state"))
        refuses(self, high_marks, {"memory": simple_memory(), "program": simple_program(), "start": 0}, wrong)
        for function in (prefixes, suffixes):
            refuses(self, function, {"program": simple_program()}, wrong_values(("program", "program")))


class Words(unittest.TestCase):
    def test_beginnings_and_ends(self):
        silent = 0
        drawing = Drawing(141)
        for _ in range(120):
            program = drawing.program(1 + drawing.below(3), 3, ("a", "b"))
            words = words_up_to(program, 7)[program.first]
            begun, ended = words_of(prefixes(program), 3), words_of(suffixes(program), 3)
            self.assertLessEqual({word[:at] for word in words for at in range(4)}, set(begun))
            self.assertLessEqual({word[len(word) - at:] for word in words for at in range(4) if at <= len(word)}, set(ended))
            if program.first in never(program):
                self.assertEqual((begun, ended), ([], []))
                silent += 1
            # Whatever is a beginning is one of a word that may be longer: of the turned program it is an end.
            turned = [word[::-1] for word in words_of(suffixes(turned_about(program)), 3)]
            self.assertEqual(sorted(begun), sorted(turned))
            for name in program.procedures:
                self.assertEqual(words_of(Program(program.procedures, name), 3), words_of(changed_first(prefixes(program), name), 3))
        self.assertGreater(silent, 0)

    def test_just_the_beginnings_of_finite_programs(self):
        drawing = Drawing(142)
        done = 0
        for _ in range(300):
            program = drawing.program(1, 3, ("a", "b"))
            words = words_up_to(program, 8)[program.first]
            if any(len(word) > 4 for word in words) or len(words_up_to(program, 11)[program.first]) != len(words):
                continue
            begun = {word[:at] for word in words for at in range(len(word) + 1)}
            ended = {word[at:] for word in words for at in range(len(word) + 1)}
            self.assertEqual(set(words_of(prefixes(program), 6)), begun)
            self.assertEqual(set(words_of(suffixes(program), 6)), ended)
            done += 1
        self.assertGreater(done, 80)

    def test_again_and_again(self):
        drawing = Drawing(143)
        for _ in range(25):
            program = drawing.program(2, 2, ("a", "b"))
            begun, ended = prefixes(program), suffixes(program)
            self.assertEqual(words_of(prefixes(begun), 4), words_of(begun, 4))
            self.assertEqual(words_of(suffixes(ended), 4), words_of(ended, 4))
            self.assertEqual(words_of(suffixes(begun), 4), words_of(prefixes(ended), 4))
        program = simple_program()
        memory = simple_memory()
        for _ in range(6):
            program = prefixes(program)
            self.assertEqual(words_of(program, 3), [(), ("a",), ("a", "a"), ("a", "b"), ("a", "a", "a"), ("a", "a", "b")])
            self.assertIs(is_word_of(program, ("a",) * 30 + ("b",) * 29), True)
            self.assertEqual(whole(memory, program, 0, (0,)), ("at", (0, 1), 0))
            self.assertEqual(most_at(memory, program, 0, (0,), (0, 1)), 0)
            self.assertEqual(told(memory, program, dearest(memory, program, 0, (0,), (0, 1)))[-1][1][1], 0)
            shown = paper(memory, program, 0, (0,), (0, 1))
            self.assertEqual(shown_most(memory, program, 0, (0,), (0, 1), shown), 0)
            self.assertTrue(program == turned_about(turned_about(program)))
        self.assertEqual(len(program.procedures), 64)
        self.assertIs(is_showing(memory, program, 0, (0,), showing(memory, program, 0, (0,))), True)
        caught(self, TooMany, {"most": 64}, prefixes, program)

    def test_loads_above_400(self):
        heavy = ("then", (("times", 9, 9, A), ("times", 9, 9, B)) * 4)
        program = prefixes(Program({"f": ("then", (heavy,) * 4)}, "f"))
        caught(self, BadProgram, {"part": "x0"}, Program, program.procedures, "x0")
        self.assertEqual(whole(memory_of(1, "ab"), program, 0, (0,)), front_of([(0, 0), (288, -288)]))
        self.assertEqual(high_marks(memory_of(1, "ab"), program, 0), front_of([(0, 0), (288, -288)]))


def changed_first(program, first):
    """The program that begins with another procedure; its loads may be above 400."""
    from hitclocks.programs import made_program
    return made_program(program.procedures, first)


class HighMarks(unittest.TestCase):
    def test_facts(self):
        kinds = {}
        for drawing, memory, program, start, goals in drawn_cases(144, 120, 3, 2):
            marks = high_marks(memory, program, start)
            self.assertEqual(marks, whole(memory, prefixes(program), start, tuple(range(len(memory)))))
            self.assertIs(is_below(whole(memory, program, start, goals), marks), True)
            if marks is None:
                self.assertIn(program.first, never(program))
            else:
                self.assertIs(is_below(front_of([(0, 0)]), marks), True)
            kinds[marks and marks[0]] = True
        self.assertEqual(set(kinds), {None, "endless", "over", "at"})

    def test_what_it_can_come_to(self):
        memory = Memory(("a", "b"), (((1, 3, 0), (0, 0, -9)), ((1, 0, 2), (0, -5, 1))))
        program = Program({"f": ("then", (A, A, B, B))}, "f")
        # The beginnings come to (0, 0), (3, 0), (3, 2), (-2, 3), (-2, -6).
        self.assertEqual(high_marks(memory, program, 0), front_of([(3, 2), (-2, 3)]))
        self.assertEqual(whole(memory, program, 0, (0,)), front_of([(-2, -6)]))


if __name__ == "__main__":
    unittest.main()
