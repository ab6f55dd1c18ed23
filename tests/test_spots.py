"""[74] along a tale, with [3] and [5]."""

import unittest

from drawing import any_values, both_ways, caught, numbers_beyond, program_of_heads, refuses, simple_memory, simple_program
from drawing import wrong_values
from hitclocks.dearest import dearest
from hitclocks.errors import BadNumber, BadTale, TooMany
from hitclocks.fronts import front_of, joined, summed
from hitclocks.memories import Memory, read
from hitclocks.prices import worth
from hitclocks.programs import Program
from hitclocks.spots import first_above, peak_told, spot, stretch_told
from hitclocks.tales import length_of, told, told_gap, word_told
from reference import entry_runs
from test_at_a_price import drawn_cases, memory_of

A = ("read", "a")
B = ("read", "b")
F = ("f",)
TALE = ((F, 0, ("either", 1, ("none",))), (F, 0, ("either", 0, ("then", (("read",), ("call", 0), ("read",))))),
        (F, 0, ("either", 0, ("then", (("read",), ("call", 1), ("read",))))))
PRICES = [(1, 0), (2, 1), (1, 1), (1, 3), (0, 1)]


def doubled(times, first):
    """A program and a tale of a run of 2 ** times of the first letter's runs, each entry naming the one ahead twice."""
    program = Program({"f": ("either", (("then", (("call", "f"), ("call", "f"))), A, ("then", (A, B))))}, "f")
    tale = ((F, 0, first),)
    for number in range(times):
        tale += ((F, 0, ("either", 0, ("then", (("call", number), ("call", number))))),)
    return program, tale


class ByLetters(unittest.TestCase):
    def all_is_right(self, memory, program, tale):
        """All spots, stretches and first places above, read letter by letter."""
        start, word = tale[-1][1], entry_runs(memory, program, tale, False)[-1][6]
        case = {"memory": memory, "program": program, "tale": tale}
        kept = repr(tale)
        pairs = []
        for at in range(len(word) + 1):
            state, pair = read(memory, start, word[:at])
            pairs.append(pair)
            self.assertEqual(both_ways(self, spot, **case, at=at), (state, pair))
        for high in range(len(word) + 1):
            for low in range(max(0, high - 5), high + 1):
                self.assertEqual(both_ways(self, stretch_told, **case, low=low, high=high), word[low:high])
        self.assertEqual(stretch_told(memory, program, tale, 0, len(word)), word)
        self.assertEqual(both_ways(self, peak_told, **case), front_of(pairs))
        for price in PRICES:
            worths = [worth(pair, price) for pair in pairs]
            for number in range(min(worths) - 2, max(worths) + 2):
                right = next((at for at, paid in enumerate(worths) if paid > number), None)
                self.assertEqual(both_ways(self, first_above, **case, price=price, number=number), right)
        self.assertEqual(repr(tale), kept)
        return len(word)

    def test_example(self):
        case = {"memory": simple_memory(), "program": simple_program(), "tale": TALE}
        self.assertEqual(both_ways(self, spot, **case, at=2), (0, (4, 0)))
        self.assertEqual(spot(*case.values(), 4), (0, (4, -6)))
        self.assertEqual(stretch_told(*case.values(), 1, 3), ("a", "b"))
        self.assertEqual(peak_told(*case.values()), ("over", (1, 0), (0, 1), ((4, 0),)))
        self.assertEqual(first_above(*case.values(), (1, 0), 2), 2)
        self.assertIsNone(first_above(*case.values(), (1, 0), 4))
        self.assertEqual(first_above(*case.values(), (1, 0), -1), 0)
        self.assertEqual(first_above(*case.values(), (1, 0), 0), 1)
        self.assertEqual(self.all_is_right(*case.values()), 4)
        self.assertEqual(self.all_is_right(simple_memory(), simple_program(), TALE[:1]), 0)
        self.assertEqual(peak_told(simple_memory(), simple_program(), TALE[:1]), front_of([(0, 0)]))

    def test_drawn_tales(self):
        letters = []
        for drawing, memory, program, start, goals in drawn_cases(151, 200, 3, 3):
            for tale in (drawing.tale(memory, program, 25), dearest(memory, program, start, goals, drawing.price())):
                if tale:
                    longest = max(range(len(tale)), key=lambda at: length_of(memory, program, tale[:at + 1]))
                    for some in (tale, tale[:longest + 1]):
                        if length_of(memory, program, some) <= 25:
                            letters.append(self.all_is_right(memory, program, some))
        self.assertGreater(sum(many > 3 for many in letters), 40)
        self.assertIn(0, letters)

    def test_entries_without_letters(self):
        program = Program({"f": ("then", (("any", ("none",)), A, ("call", "g"), ("any", ("call", "g")), B, ("times", 0, 2, ("call", "g")))),
                           "g": ("either", (("none",), ("then", (("call", "g"), ("call", "g")))))}, "f")
        tale = ((("g",), 0, ("either", 0, ("none",))),)
        for number in range(70):
            tale += ((("g",), 0, ("either", 1, ("then", (("call", number), ("call", number))))),)
        tale += ((("f", (0,)), 0, ("end",)), (("f", (3,)), 0, ("end",)), (("f", (3,)), 0, ("more", ("call", 70), 72)),
                 (F, 0, ("then", (("any", 71), ("read",), ("call", 70), ("any", 73), ("read",), ("times", (("call", 69),) * 2)))))
        self.assertEqual(self.all_is_right(simple_memory(), program, tale), 2)
        self.assertEqual(word_told(simple_memory(), program, tale, 2), ("a", "b"))

    def test_joined_entry_by_entry(self):
        for drawing, memory, program, start, goals in drawn_cases(152, 60, 3, 2):
            twice = Program({**program.procedures, "z": ("then", (("call", program.first), ("call", program.first)))}, "z")
            tale = drawing.tale(memory, program, 30)
            ends = [entry[0] for entry in tale]
            for at, entry in enumerate(tale):
                if entry[0] != (program.first,):
                    continue
                end, pair = told(memory, program, tale)[at]
                behind = [other for other in range(len(tale)) if ends[other] == (program.first,) and tale[other][1] == end]
                for other in behind[:2]:
                    both = tale + ((("z",), entry[1], ("then", (("call", at), ("call", other)))),)
                    second = peak_told(memory, program, tale[:other + 1])
                    right = joined(peak_told(memory, program, tale[:at + 1]), summed(front_of([pair]), second))
                    self.assertEqual(peak_told(memory, twice, both), right)


class LongRuns(unittest.TestCase):
    def test_2_to_the_200_letters(self):
        memory = Memory(("a", "b"), (((1, 1, 0), (0, 0, -1)), ((0, 2, -5), (1, 0, 4))))
        program, tale = doubled(200, ("either", 1, ("read",)))
        many = 2 ** 200
        self.assertEqual(length_of(simple_memory(), program, tale), many)
        for at in (0, 1, 2, 3, 2 ** 100 + 17, 3 ** 100, many - 1, many):
            self.assertEqual(spot(simple_memory(), program, tale, at), (0, (2 * at, 0)))
            stop = min(many, at + 2000)
            self.assertEqual(stretch_told(simple_memory(), program, tale, at, stop), ("a",) * (stop - at))
            if at:
                self.assertEqual(first_above(simple_memory(), program, tale, (1, 0), 2 * at - 1), at)
                self.assertEqual(first_above(simple_memory(), program, tale, (2, 3), 4 * at - 4), at)
        self.assertIsNone(first_above(simple_memory(), program, tale, (1, 0), 2 * many))
        self.assertEqual(first_above(simple_memory(), program, tale, (1, 0), 2 * many - 1), many)
        self.assertEqual(first_above(simple_memory(), program, tale, (1, 0), -many ** 3), 0)
        self.assertIsNone(first_above(simple_memory(), program, tale, (1, 0), many ** 3))
        self.assertEqual(peak_told(simple_memory(), program, tale), front_of([(2 * many, 0)]))
        caught(self, TooMany, {"most": 2000}, stretch_told, simple_memory(), program, tale, 5, 2006)
        caught(self, TooMany, {"most": 2000}, stretch_told, simple_memory(), program, tale, 0, many)
        self.assertEqual(len(stretch_told(simple_memory(), program, tale, many - 2000, many)), 2000)
        for wrong in (many + 1, -1, many ** 9):
            caught(self, BadNumber, {}, spot, simple_memory(), program, tale, wrong)
            caught(self, BadNumber, {}, stretch_told, simple_memory(), program, tale, wrong, wrong)
            caught(self, BadNumber, {}, stretch_told, simple_memory(), program, tale, 0, wrong)
        caught(self, BadTale, {"at": 1}, spot, memory, program, tale, 0)

    def test_words_that_go_round(self):
        memory = Memory(("a", "b"), (((1, 1, 0), (0, 0, 1)), ((0, 2, -5), (0, -1, 4))))
        program, tale = doubled(250, ("either", 2, ("then", (("read",), ("read",)))))
        many = 2 ** 251
        self.assertEqual(length_of(memory, program, tale), many)
        for rounds in (0, 1, 5, 2 ** 99, 2 ** 250 - 1):
            self.assertEqual(spot(memory, program, tale, 2 * rounds), (0, (0, 4 * rounds)))
            self.assertEqual(spot(memory, program, tale, 2 * rounds + 1), (1, (1, 4 * rounds)))
            self.assertEqual(stretch_told(memory, program, tale, 2 * rounds + 1, 2 * rounds + 2), ("b",))
            self.assertEqual(first_above(memory, program, tale, (0, 1), 4 * rounds), 2 * rounds + 2)
            self.assertEqual(first_above(memory, program, tale, (1, 1), 4 * rounds), 2 * rounds + 1)
        self.assertIsNone(first_above(memory, program, tale, (1, 0), 1))
        self.assertEqual(first_above(memory, program, tale, (1, 0), 0), 1)
        self.assertEqual(peak_told(memory, program, tale), front_of([(1, 2 ** 252 - 4), (0, 2 ** 252)]))

    def test_a_tale_of_5000_entries(self):
        tale = TALE[:1]
        for number in range(4999):
            tale += ((F, 0, ("either", 0, ("then", (("read",), ("call", number), ("read",))))),)
        case = (simple_memory(), simple_program(), tale)
        self.assertEqual(spot(*case, 4999), (0, (9998, 0)))
        self.assertEqual(spot(*case, 5001), (0, (9998, -6)))
        self.assertEqual(stretch_told(*case, 4998, 5001), ("a", "b", "b"))
        self.assertEqual(len(stretch_told(*case, 4000, 6000)), 2000)
        self.assertEqual(peak_told(*case), front_of([(9998, 0)]))
        self.assertEqual(first_above(*case, (3, 1), 29990), 4999)

    def test_more_than_2000_triples(self):
        memory, program = memory_of(3), program_of_heads(700)
        tale = ((("a",), 1, ("read",)),)
        self.assertEqual(spot(memory, program, tale, 1), (2, (1, -1)))
        self.assertEqual(stretch_told(memory, program, tale, 0, 1), ("a",))
        self.assertEqual(peak_told(memory, program, tale), front_of([(0, 0), (1, -1)]))
        self.assertEqual(first_above(memory, program, tale, (1, 0), 0), 1)


class Refusing(unittest.TestCase):
    def test_wrong_values(self):
        tales = [(thing, BadTale, {"at": None}) for thing in any_values() if type(thing) is not tuple or not thing]
        tales += [((1,), BadTale, {"at": 0}), (TALE + (None,), BadTale, {"at": 3}), (TALE[:1] + TALE[2:], BadTale, {"at": 1}),
                  (list(TALE), BadTale, {"at": None}), (TALE[:2] + ((F, False, TALE[2][2]),), BadTale, {"at": 2})]
        wrong = {**wrong_values(("memory", "memory"), ("program", "letters"), ("price", "price")), "tale": tales,
                 "at": numbers_beyond(0, 4), "low": numbers_beyond(0, 4), "high": numbers_beyond(0, 4),
                 "number": [(thing, BadNumber, {}) for thing in [True, False, None, "1", (), (0,), {}, 1.5]]}
        case = {"memory": simple_memory(), "program": simple_program(), "tale": TALE}
        refuses(self, peak_told, case, wrong)
        refuses(self, spot, {**case, "at": 2}, wrong)
        refuses(self, stretch_told, {**case, "low": 0, "high": 4}, wrong)
        refuses(self, first_above, {**case, "price": (1, 1), "number": 2}, wrong)
        for low, high in [(1, 0), (4, 3), (4, 0)]:
            caught(self, BadNumber, {}, stretch_told, *case.values(), low, high)
        gap = (("gap", F, 0, 0), (F, 0, ("either", 0, ("then", (("read",), ("call", 0), ("read",))))))
        self.assertEqual(told_gap(simple_memory(), simple_program(), gap)[1][2], 1)
        caught(self, BadTale, {"at": 0}, spot, simple_memory(), simple_program(), gap, 0)


if __name__ == "__main__":
    unittest.main()
