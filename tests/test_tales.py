"""[32] plays and tales, with [3], [4] and [5]."""

import unittest

from drawing import Drawing, any_values, both_ways, caught, simple_memory, simple_program
from hitclocks.dearest import dearest
from hitclocks.errors import BadMemory, BadNumber, BadProgram, BadTale, NoLetter, TooMany
from hitclocks.memories import Memory, read
from hitclocks.programs import Program, is_word_of
from hitclocks.pumps import pump
from hitclocks.tales import is_tale, length_of, told, told_gap, word_told
from reference import Wrong, entry_runs, mutants
from reference import is_tale as is_tale_by_words

A = ("read", "a")
B = ("read", "b")
READ = ("read",)
ROUND = (("gap", ("f",), 0, 0), (("f",), 0, ("either", 0, ("then", (READ, ("call", 0), READ)))))
BOTTOM = (("f",), 0, ("either", 1, ("none",)))


def around(number):
    return (("f",), 0, ("either", 0, ("then", (READ, ("call", number), READ))))


# All forms of plays at once: three states, letters that go round, loops within loops, and calls.
MEMORY = Memory(("a", "b"), (((1, 1, 0), (2, 0, 1)), ((2, 1, 2), (0, 0, -1)), ((0, -5, 0), (1, 3, 0))))
PROGRAM = Program({"f": ("then", (("any", ("either", (A, ("any", B), ("call", "g")))), ("times", 1, 3, ("call", "g")))),
                   "g": ("either", (("none",), ("then", (A, B)), ("then", ())))}, "f")
TALE = (
    (("g",), 1, ("either", 1, ("then", (READ, READ)))),
    (("f", (0,)), 1, ("end",)),
    (("f", (0, 0, 1)), 1, ("end",)),
    (("f", (0, 0, 1)), 0, ("more", READ, 8)),
    (("f", (0,)), 0, ("more", ("either", 0, READ), 1)),
    (("g",), 1, ("either", 0, ("none",))),
    (("g",), 1, ("either", 2, ("then", ()))),
    (("f",), 0, ("then", (("any", 4), ("times", (("call", 0), ("call", 5), ("call", 6)))))),
)
# The entry 3 names a later one: this one is right.
TALE = TALE[:2] + ((("f", (0, 0, 1)), 2, ("end",)), (("f", (0, 0, 1)), 0, ("more", READ, 2)),
                   (("f", (0,)), 0, ("more", ("either", 0, READ), 1))) + TALE[5:]


class Examples(unittest.TestCase):
    def test_round_by_hand(self):
        found = both_ways(self, told_gap, memory=simple_memory(), program=simple_program(), tale=ROUND)
        self.assertEqual(found, [(0, (0, 0), 1), (0, (2, -3), 1)])
        self.assertEqual(told_gap(simple_memory(), simple_program(), ROUND[:1]), [(0, (0, 0), 1)])

    def test_counts_are_summed(self):
        program = Program({"f": ("times", 0, 4, ("either", (("call", "f"), A)))}, "f")
        gap = (("gap", ("f",), 0, 0), (("f",), 0, ("times", (("either", 0, ("call", 0)),) * 3)),
               (("f",), 0, ("times", (("either", 0, ("call", 1)), ("either", 0, ("call", 0)), ("either", 1, READ)))))
        self.assertEqual(told_gap(simple_memory(), program, gap), [(0, (0, 0), 1), (0, (0, 0), 3), (0, (2, 0), 4)])

    def test_tale_by_hand(self):
        memory, program = simple_memory(), simple_program()
        tale = (BOTTOM, around(0), around(1))
        named = {"memory": memory, "program": program, "tale": tale}
        self.assertEqual(both_ways(self, told, **named), [(0, (0, 0)), (0, (2, -3)), (0, (4, -6))])
        self.assertEqual(both_ways(self, length_of, **named), 4)
        self.assertEqual(both_ways(self, word_told, **named, most=4), ("a", "a", "b", "b"))
        self.assertIs(both_ways(self, is_tale, memory=memory, program=program, thing=tale), True)

    def test_all_forms_of_plays(self):
        runs = entry_runs(MEMORY, PROGRAM, TALE, False)
        self.assertEqual(told(MEMORY, PROGRAM, TALE), [(run[2], run[3:5]) for run in runs])
        self.assertEqual(word_told(MEMORY, PROGRAM, TALE, 3), ("a", "a", "b"))
        self.assertIs(is_word_of(PROGRAM, ("a", "a", "b")), True)
        for cut in range(1, len(TALE)):
            self.assertEqual(told(MEMORY, PROGRAM, TALE[:cut]), told(MEMORY, PROGRAM, TALE)[:cut])


class Judged(unittest.TestCase):
    def judge(self, memory, program, thing):
        """What is told of any value, which has to be what the reference tells."""
        for with_gap, function in ((False, told), (True, told_gap)):
            try:
                runs = entry_runs(memory, program, thing, with_gap)
            except Wrong as wrong:
                caught(self, BadTale, {"at": wrong.args[0]}, function, memory, program, thing)
                self.assertIs(with_gap or not is_tale(memory, program, thing), True)
                continue
            right = [(run[2], run[3:5], run[5]) for run in runs]
            if not with_gap:
                right = [run[:2] for run in right]
                self.assertIs(is_tale(memory, program, thing), True)
                self.assertEqual(length_of(memory, program, thing), len(runs[-1][-1]))
                self.assertEqual(word_told(memory, program, thing, 2000), runs[-1][-1])
                self.assertEqual(read(memory, runs[-1][1], runs[-1][-1]), right[-1])
            self.assertEqual(function(memory, program, thing), right)

    def test_one_thing_otherwise(self):
        for tale in [TALE, (("gap",) + (("g",), 1, 0),) + TALE[1:]]:
            kept = repr(tale)
            for thing in mutants(tale):
                self.judge(MEMORY, PROGRAM, thing)
            self.assertEqual(repr(tale), kept)
        for thing in list(mutants(ROUND)) + list(mutants((BOTTOM, around(0), around(1)))):
            self.judge(simple_memory(), simple_program(), thing)

    def test_any_values(self):
        for thing in any_values():
            self.assertIs(is_tale(simple_memory(), simple_program(), thing), False)
            self.judge(simple_memory(), simple_program(), thing)
            self.judge(simple_memory(), simple_program(), (BOTTOM, thing))
            self.judge(simple_memory(), simple_program(), (ROUND[0], thing))
            self.judge(simple_memory(), simple_program(), ((("f",), 0, thing),))
            self.judge(simple_memory(), simple_program(), ((thing, 0, ("end",)),))
            self.judge(MEMORY, PROGRAM, (((thing, (0,)), 0, ("end",)),))
            self.judge(MEMORY, PROGRAM, ((("f", (thing,)), 0, ("end",)),))
            self.judge(MEMORY, PROGRAM, ((("f", thing), 0, ("end",)),))

    def test_wrong_by_hand(self):
        memory, program = simple_memory(), simple_program()
        for at, tale in [(0, (around(0),)), (1, (BOTTOM, around(1))), (1, (BOTTOM, around(True))), (0, ((("f",), False, BOTTOM[2]),)),
                         (2, (BOTTOM, BOTTOM, (("f",), 0, ("either", 2, ("none",))))), (0, (ROUND[0],)), (0, (list(BOTTOM),)),
                         (1, (BOTTOM, (["f"], 0, BOTTOM[2]))), (1, (BOTTOM, (("f", ()), 0, ("end",))))]:
            caught(self, BadTale, {"at": at}, told, memory, program, tale)
            caught(self, BadTale, {"at": at}, length_of, memory, program, tale)
            caught(self, BadTale, {"at": at}, word_told, memory, program, tale, -1)
        caught(self, BadTale, {"at": None}, told, memory, program, [BOTTOM])
        caught(self, BadTale, {"at": None}, told_gap, memory, program, ())
        caught(self, BadTale, {"at": 0}, told_gap, memory, program, (BOTTOM,))
        caught(self, BadTale, {"at": 1}, told_gap, memory, program, (ROUND[0], ROUND[0]))

    def test_drawn_tales(self):
        drawing = Drawing(51)
        tales = 0
        for _ in range(120):
            memory = drawing.memory(1 + drawing.below(3), 2, 3)
            program = drawing.program(1 + drawing.below(3), 3, ("a", "b"))
            for price in [(1, 0), (1, 1), (0, 1)]:
                goals = tuple(range(len(memory)))
                tale = dearest(memory, program, 0, goals, price)
                if tale is not None and length_of(memory, program, tale) < 2000:
                    tales += 1
                    self.judge(memory, program, tale)
                    self.assertIs(is_word_of(program, word_told(memory, program, tale, 2000)), True)
                    for thing in list(mutants(tale))[::7]:
                        self.assertIs(is_tale(memory, program, thing), is_tale_by_words(memory, program, thing))
                gains = pump(memory, program, 0, goals, price)
                for gap_tale in gains[:2] if gains else ():
                    runs = entry_runs(memory, program, gap_tale, True)
                    self.assertEqual(told_gap(memory, program, gap_tale), [(run[2], run[3:5], run[5]) for run in runs])
        self.assertGreater(tales, 50)


class Long(unittest.TestCase):
    def test_very_many_letters_in_few_entries(self):
        names = ["p" + str(number) for number in range(41)]
        procedures = {name: ("times", 3, 3, ("call", after)) for name, after in zip(names, names[1:])}
        procedures["p40"] = A
        program = Program(procedures, "p0")
        tale = tuple([(("p40",), 0, READ)] + [((names[39 - k],), 0, ("times", (("call", k),) * 3)) for k in range(40)])
        memory = simple_memory()
        self.assertEqual(length_of(memory, program, tale), 3 ** 40)
        self.assertEqual(told(memory, program, tale)[-1], (0, (2 * 3 ** 40, 0)))
        caught(self, TooMany, {"most": 2000}, word_told, memory, program, tale, 2000)
        caught(self, TooMany, {"most": 0}, word_told, memory, program, tale[:1], 0)
        self.assertEqual(word_told(memory, program, tale[:7], 729), ("a",) * 729)
        caught(self, TooMany, {"most": 728}, word_told, memory, program, tale[:7], 728)
        self.assertEqual(word_told(memory, program, tale[:1] + tale[:1], 1), ("a",))

    def test_numbers_of_word_told(self):
        for wrong in [-1, 2001, True, None, "1", (1,)]:
            caught(self, BadNumber, {}, word_told, simple_memory(), simple_program(), (BOTTOM,), wrong)
        self.assertEqual(word_told(simple_memory(), simple_program(), (BOTTOM,), 0), ())
        long = tuple([BOTTOM] + [around(number) for number in range(1000)])
        self.assertEqual(word_told(simple_memory(), simple_program(), long, 2000), ("a",) * 1000 + ("b",) * 1000)
        caught(self, TooMany, {"most": 1999}, word_told, simple_memory(), simple_program(), long, 1999)

    def test_5000_entries_and_words_of_nothing(self):
        program = Program({"f": ("either", (("none",), ("then", (("call", "f"), ("call", "f")))))}, "f")
        tale = [(("f",), 0, ("either", 0, ("none",)))]
        for number in range(4999):
            tale.append((("f",), 0, ("either", 1, ("then", (("call", number),) * 2))))
        self.assertEqual(length_of(simple_memory(), program, tuple(tale)), 0)
        self.assertEqual(word_told(simple_memory(), program, tuple(tale), 0), ())
        self.assertEqual(told(simple_memory(), program, tuple(tale))[-1], (0, (0, 0)))

    def test_a_loop_of_many_rounds(self):
        program = Program({"f": ("then", (("any", A),))}, "f")
        tale = [(("f", (0,)), 0, ("end",))]
        for number in range(2000):
            tale.append((("f", (0,)), 0, ("more", READ, number)))
        tale.append((("f",), 0, ("then", (("any", 2000),))))
        self.assertEqual(word_told(simple_memory(), program, tuple(tale), 2000), ("a",) * 2000)
        self.assertEqual(told(simple_memory(), program, tuple(tale))[-1], (0, (4000, 0)))


class Parameters(unittest.TestCase):
    def test_the_leftmost_counts(self):
        for function, more in [(told, (0,)), (is_tale, (0,)), (length_of, (0,)), (told_gap, (0,)), (word_told, (0, -1))]:
            for thing in any_values():
                if not isinstance(thing, Memory):
                    caught(self, BadMemory, {"part": None}, function, thing, 0, *more)
                if not isinstance(thing, Program):
                    caught(self, BadProgram, {"part": None}, function, simple_memory(), thing, *more)
            foreign = Program({"f": A, "g": ("then", (("read", "z"), ("times", 0, 0, ("read", "d")), B))}, "f")
            caught(self, NoLetter, {"letter": "d"}, function, simple_memory(), foreign, *more)


if __name__ == "__main__":
    unittest.main()
