"""[63] programs put together, with [3], [4] and [5]."""

import unittest

from drawing import Drawing, any_values, both_ways, caught, refuses, simple_program, wrong_values
from hitclocks.dearest import dearest
from hitclocks.errors import BadLetter, BadName, BadPath, BadProgram, TooMany
from hitclocks.fronts import front_of
from hitclocks.heads import heads
from hitclocks.memories import Memory
from hitclocks.orders import costs
from hitclocks.papers import is_paper, paper
from hitclocks.prefixes import prefixes, suffixes
from hitclocks.programs import Program, letters_of, never, turned_about, words_of
from hitclocks.showings import is_showing, showing
from hitclocks.spots import spot
from hitclocks.tales import told, word_told
from hitclocks.together import inlined, replaced, unrolled
from hitclocks.wholes import whole
from reference import loops_of, words_up_to
from test_equations import drawn_equations
from test_programs import of_load

A = ("read", "a")
B = ("read", "b")
NONE = ("none",)


def calls_of(program):
    """The pairs (name, path) of the places of calls."""
    found = []

    def look(name, body, path):
        if body[0] == "call":
            found.append((name, path))
        parts = {"then": body[1:2], "either": body[1:2], "times": (body[3:],), "any": (body[1:],)}.get(body[0], ((),))[0]
        for at, part in enumerate(parts):
            look(name, part, path + (at,))

    for name, body in program.procedures.items():
        look(name, body, ())
    return found


class Replaced(unittest.TestCase):
    def test_by_hand(self):
        one, other = Program({"f": A}, "f"), Program({"g": ("any", B)}, "g")
        program = both_ways(self, replaced, program=one, letter="a", other=other)
        self.assertEqual(program, Program({"f": ("call", "q0"), "q0": ("any", B)}, "f"))
        self.assertEqual(replaced(one, "b", other), Program({"f": A, "q0": ("any", B)}, "f"))
        self.assertEqual((one, other), (Program({"f": A}, "f"), Program({"g": ("any", B)}, "g")))
        told_procedures = program.procedures
        told_procedures.clear()
        self.assertEqual(list(program.procedures), ["f", "q0"])

    def test_names_that_are_taken(self):
        one = Program({"q0": ("then", (A, ("call", "q2"))), "q2": ("any", ("either", (A, B))), "q10": ("times", 1, 2, A)}, "q2")
        other = Program({"q0": ("call", "z"), "b": ("then", (("call", "q0"), A)), "z": ("call", "b")}, "z")
        program = replaced(one, "a", other)
        call = ("call", "q4")
        self.assertEqual(program, Program({
            "q0": ("then", (call, ("call", "q2"))), "q2": ("any", ("either", (call, B))), "q10": ("times", 1, 2, call),
            "q1": ("then", (("call", "q3"), A)), "q3": ("call", "q4"), "q4": ("call", "q1")}, "q2"))
        own = Program({"q0": A, "q1": ("then", (("call", "q0"), ("call", "q1"))), "a": B}, "a")
        self.assertEqual(replaced(own, "a", own), Program({
            "q0": ("call", "q2"), "q1": ("then", (("call", "q0"), ("call", "q1"))), "a": B, "q2": B, "q3": A,
            "q4": ("then", (("call", "q3"), ("call", "q4")))}, "a"))

    def test_words(self):
        drawing = Drawing(111)
        for _ in range(60):
            one, other = drawing.program(2, 2, ("a", "b")), drawing.program(2, 2, ("a", "c"))
            program = replaced(one, "a", other)
            inner = words_up_to(other, 4)[other.first]
            words = set()
            # Words of the program may have more letters than 4 if what comes in is empty.
            for word in words_up_to(one, 6)[one.first]:
                found = {()}
                for letter in word:
                    found = {left + right for left in found for right in (inner if letter == "a" else {("b",)})
                             if len(left + right) <= 4}
                words |= found
            right = words_up_to(program, 4)[program.first]
            self.assertLessEqual(words, right)
            if () not in inner:
                self.assertEqual(words, right)
            self.assertEqual(program.first, one.first)

    def test_a_letter_may_stand_for_a_program(self):
        done = 0
        for drawing, lettering, program, size in drawn_equations(112, 60, 2):
            other = drawing.program(1, 2, ("a", "b"))
            both = replaced(program, "c", other)
            marked = replaced(Program({"m": ("either", (("read", "c"), ("call", "m")))}, "m"), "x", program)
            self.assertEqual(letters_of(both), tuple(sorted(set(letters_of(program) + letters_of(other)))))
            if len(heads(program)) + len(heads(other)) > 20 or (len(heads(program)) + len(heads(other))) * size * size > 100:
                continue
            named = {**lettering, "b": costs(lettering, other)[(other.first,)]}
            told_costs, other_costs = costs(named, program), costs(lettering, replaced(program, "b", other))
            for head in heads(program):
                self.assertEqual(other_costs[head], told_costs[head])
            self.assertEqual(marked.first, "m")
            done += 1
        self.assertGreater(done, 30)

    def test_64_procedures_and_65(self):
        many = Program({"p" + str(number): A for number in range(60)}, "p0")
        four = Program({"a" + str(number): B for number in range(4)}, "a3")
        five = Program({"a" + str(number): B for number in range(5)}, "a3")
        program = replaced(many, "a", four)
        self.assertEqual(len(program.procedures), 64)
        self.assertEqual(program.procedures["p59"], ("call", "q3"))
        caught(self, TooMany, {"most": 64}, replaced, many, "a", five)
        caught(self, TooMany, {"most": 64}, replaced, many, "z", five)
        caught(self, TooMany, {"most": 64}, replaced, program, "a", Program({"f": NONE}, "f"))

    def test_loads_above_400_stay(self):
        heavy = prefixes(Program({"f": of_load(300)}, "f"))
        caught(self, BadProgram, {"part": "x0"}, Program, heavy.procedures, "f")
        program = replaced(heavy, "a", heavy)
        self.assertEqual(len(program.procedures), 4)
        self.assertEqual(program.procedures["q1"], heavy.procedures["x0"][:1] + (program.procedures["q1"][1],))
        self.assertEqual(replaced(heavy, "b", Program({"f": NONE}, "f")).procedures["x0"], heavy.procedures["x0"])

    def test_wrong_values(self):
        wrong = {**wrong_values(("program", "program"), ("other", "program")), "letter": [
            (thing, BadLetter, {}) for thing in [None, True, 1, "", "a_", "a" * 13, "\u00e4", ("a",), ["a"], {}, simple_program()]]}
        refuses(self, replaced, {"program": simple_program(), "letter": "a", "other": simple_program()}, wrong)
        self.assertEqual(replaced(Program({"f": A}, "f"), "zz.9", Program({"g": B}, "g")).procedures, {"f": A, "q0": B})


class Written(unittest.TestCase):
    def test_inlined_by_hand(self):
        program = Program({"f": ("then", (A, ("call", "g"), ("any", ("call", "g")), ("times", 1, 2, ("either", (("call", "f"), B))))),
                           "g": ("either", (A, ("call", "f")))}, "f")
        body = program.procedures["f"][1]
        g = program.procedures["g"]
        right = both_ways(self, inlined, program=program, name="f", path=(1,))
        self.assertEqual(right, Program({"f": ("then", (body[0], g, body[2], body[3])), "g": g}, "f"))
        self.assertEqual(inlined(program, "f", (2, 0)).procedures["f"], ("then", (body[0], body[1], ("any", g), body[3])))
        self.assertEqual(inlined(program, "f", (3, 0, 0)).procedures["f"],
                         ("then", body[:3] + (("times", 1, 2, ("either", (program.procedures["f"], B))),)))
        self.assertEqual(inlined(program, "g", (1,)).procedures["g"], ("either", (A, program.procedures["f"])))
        self.assertEqual(inlined(Program({"f": ("call", "f")}, "f"), "f", ()), Program({"f": ("call", "f")}, "f"))
        self.assertEqual(program.procedures["f"], ("then", body))

    def test_unrolled_by_hand(self):
        program = Program({"f": ("then", (A, ("any", ("either", (A, ("any", B)))))), "g": ("any", ("call", "f"))}, "g")
        right = both_ways(self, unrolled, program=program, name="g", path=())
        self.assertEqual(right.procedures, {"f": program.procedures["f"], "g": (
            "either", (NONE, ("then", (("call", "f"), ("any", ("call", "f"))))))})
        inner = ("either", (NONE, ("then", (B, ("any", B)))))
        self.assertEqual(unrolled(program, "f", (1, 0, 1)).procedures["f"], ("then", (A, ("any", ("either", (A, inner))))))
        loop = program.procedures["f"][1][1]
        self.assertEqual(unrolled(program, "f", (1,)).procedures["f"],
                         ("then", (A, ("either", (NONE, ("then", (loop[1], loop)))))))
        self.assertEqual(right.first, "g")

    def test_words_and_costs_stay(self):
        changed = {"inlined": 0, "unrolled": 0}
        for drawing, lettering, program, size in drawn_equations(113, 100, 2):
            places = [("inlined", place) for place in calls_of(program)] + [("unrolled", head) for head in loops_of(program)]
            for kind, (name, path) in places[:6]:
                other = (inlined if kind == "inlined" else unrolled)(program, name, path)
                changed[kind] += 1
                for first in program.procedures:
                    self.assertEqual(words_of(Program(other.procedures, first), 4), words_of(Program(program.procedures, first), 4))
                if len(heads(other)) * size * size <= 150:
                    told_costs, other_costs = costs(lettering, program), costs(lettering, other)
                    for first in program.procedures:
                        self.assertEqual(other_costs[(first,)], told_costs[(first,)])
        self.assertGreater(min(changed.values()), 20)

    def test_loads(self):
        program = Program({"f": ("then", (("call", "g"), ("call", "g"))), "g": of_load(199), "h": ("any", of_load(396))}, "f")
        once = inlined(program, "f", (0,))
        self.assertEqual(inlined(once, "f", (1,)).procedures["f"], ("then", (of_load(199),) * 2))
        self.assertEqual(unrolled(program, "h", ()).procedures["h"][0], "either")
        program = Program({"f": ("then", (("call", "g"), ("call", "g"))), "g": of_load(200), "h": ("any", of_load(397))}, "f")
        caught(self, BadProgram, {"part": "f"}, inlined, inlined(program, "f", (1,)), "f", (0,))
        caught(self, BadProgram, {"part": "h"}, unrolled, program, "h", ())
        heavy = prefixes(Program({"f": of_load(300), "z": ("any", ("call", "f"))}, "f"))
        caught(self, BadProgram, {"part": "x0"}, inlined, heavy, "z", (0,))
        caught(self, BadProgram, {"part": "x0"}, unrolled, heavy, "z", ())
        self.assertEqual(never(heavy), ())

    def test_wrong_values(self):
        program = Program({"f": ("then", (A, ("call", "g"), ("times", 1, 1, ("any", ("call", "f"))), ("either", ()))), "g": NONE}, "f")
        names = [(thing, BadName, {}) for thing in any_values() + ["h", "F", ("f",), ["f"], "x0"] if thing != "f"]
        paths = [(thing, BadPath, {}) for thing in any_values() + [
            (2,), (2, 0, 1), (0, 0), (3, 0), (4,), (-1,), (1.0,), [1], (True,), (2, False), (2, 0, False), ("1",), (None,), 1, (10 ** 12,)]
            if thing != (1,)]
        good = {"program": program, "name": "f", "path": (1,)}
        wrong = {**wrong_values(("program", "program")), "name": names, "path": paths}
        refuses(self, inlined, good, wrong)
        loops = [(thing, BadPath, {}) for thing in any_values() + [(1,), (2, 0, 0), (2,), (True,), [2, 0], (2, False), (-2, 0)]]
        refuses(self, unrolled, {**good, "path": (2, 0)}, {**wrong, "path": loops})


class Deep(unittest.TestCase):
    """Programs that come of inlining may have bodies of very many levels."""

    def test_loops_in_loops(self):
        program = Program({"f": ("any", ("either", (A, ("call", "f"))))}, "f")
        for number in range(9):
            program = inlined(program, "f", (0, 1) * (2 ** number))
        self.assertEqual(len(heads(program)), 513)
        memory = Memory(("a",), (((0, -1, -1),),))
        self.assertEqual(whole(memory, program, 0, (0,)), ("over", (1, 0), (0, 1), ((0, 0),)))
        self.assertEqual(words_of(program, 3), [(), ("a",), ("a",) * 2, ("a",) * 3])
        self.assertTrue(program == turned_about(program))
        self.assertFalse(program == inlined(program, "f", (0, 1) * 512))
        self.assertEqual(letters_of(replaced(program, "a", program)), ("a",))
        self.assertIs(is_showing(memory, program, 0, (0,), showing(memory, program, 0, (0,))), True)

    def test_choices_in_choices(self):
        program = Program({"f": ("either", (("then", (A, ("call", "f"))), NONE))}, "f")
        for number in range(6):
            program = inlined(program, "f", (0, 1) * (2 ** number))
        caught(self, BadProgram, {"part": "f"}, inlined, program, "f", (0, 1) * 64)
        for again in (program, prefixes(program), turned_about(suffixes(program)), prefixes(prefixes(program))):
            moves = [((state + 1, 1, 2),) for state in range(9)] + [((9, -1, -1),)]
            memory = Memory(("a",), tuple(moves))
            self.assertEqual(whole(memory, again, 0, (0, 9)), front_of([(9, 18)]))
            tale = dearest(memory, again, 0, (9,), (1, 1))
            self.assertEqual(told(memory, again, tale)[-1], (9, (9, 18)))
            self.assertEqual(word_told(memory, again, tale, 9), ("a",) * 9)
            self.assertIs(is_paper(memory, again, (1, 1), paper(memory, again, 0, (9,), (1, 1))), True)
        memory = Memory(("a",), tuple([((state + 1, 1, 2),) for state in range(43)] + [((43, -1, -1),)]))
        tale = dearest(memory, program, 0, (43,), (1, 1))
        self.assertEqual(word_told(memory, program, tale, 43), ("a",) * 43)
        self.assertEqual(len(tale), 1)
        self.assertEqual(spot(memory, program, tale, 20), (20, (20, 40)))


if __name__ == "__main__":
    unittest.main()
