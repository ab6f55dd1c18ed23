"""[70] runs by their lengths, with [3] and [5]."""

import unittest

from drawing import both_ways, caught, numbers_beyond, program_of_heads, refuses, simple_memory, simple_program, wrong_values
from hitclocks.dearest import dearest, most_at
from hitclocks.errors import BadLetters, TooMany
from hitclocks.fronts import at_price, front_of, is_below, joined
from hitclocks.heads import heads
from hitclocks.lengths import by_length, dearest_word, free, least_length, longest, tallied, within_length
from hitclocks.memories import Memory, negated, read
from hitclocks.prices import worth
from hitclocks.programs import Program, letters_of, words_of
from hitclocks.shortest import first_word, settles, shortest
from hitclocks.tales import told
from hitclocks.wholes import whole
from reference import words_up_to
from test_at_a_price import drawn_cases, memory_of

A = ("read", "a")
B = ("read", "b")
CASE = {"memory": simple_memory(), "program": simple_program(), "start": 0, "goals": (0,)}
WRONG = {**wrong_values(("memory", "memory"), ("program", "letters"), ("start", "state"), ("goals", "goals"), ("price", "price")),
         "most": numbers_beyond(0, 24), "number": numbers_beyond(0, 24)}


def runs_by_words(memory, program, start, goals, most):
    """For each length up to most the list of the pairs of a run's pair and word."""
    found = [[] for _ in range(most + 1)]
    for word in words_up_to(program, most)[program.first]:
        end, pair = read(memory, start, word)
        if end in goals:
            found[len(word)].append((pair, word))
    return found


class Free(unittest.TestCase):
    def test_8_letters_and_9_and_64(self):
        letters = tuple(sorted("x" + str(number) for number in range(65)))
        reads = tuple(("read", letter) for letter in letters)
        for many in (1, 2, 7, 8):
            self.assertEqual(both_ways(self, free, letters=letters[:many]),
                             Program({"all": ("any", ("either", reads[:many]))}, "all"))
        for many in (9, 15, 16, 17, 63, 64):
            lots = tuple(("either", reads[at:min(at + 8, many)]) for at in range(0, many, 8))
            self.assertEqual(free(letters[:many]), Program({"all": ("any", ("either", lots))}, "all"))
            self.assertEqual(letters_of(free(letters[:many])), letters[:many])
        self.assertEqual(len(free(letters[:9]).procedures["all"][1][1][1][1]), 1)
        caught(self, BadLetters, {}, free, letters)
        self.assertEqual(words_of(free(("a", "b")), 2), [(), ("a",), ("b",), ("a", "a"), ("a", "b"), ("b", "a"), ("b", "b")])

    def test_wrong_values(self):
        refuses(self, free, {"letters": ("a",)}, {"letters": [(thing, BadLetters, {}) for thing in [
            (), ("b", "a"), ("a", "a"), ["a"], "a", None, 1, True, {}, ("",), ("a_",), ("a" * 13,), (1,), ("a", None), (("a",),), {"a": 1},
            simple_memory()]]})


class Lengths(unittest.TestCase):
    def test_tallied(self):
        memory = Memory(("a", "b"), (((1, 2, -3), (0, 0, 0)), ((1, 0, 1), (0, -1, -1))))
        self.assertEqual(both_ways(self, tallied, memory=memory),
                         Memory(("a", "b"), (((1, 1, 0), (0, 1, 0)), ((1, 1, 0), (0, 1, 0)))))
        self.assertEqual(memory.moves[0][0], (1, 2, -3))
        refuses(self, tallied, {"memory": memory}, WRONG)

    def test_by_hand(self):
        self.assertEqual(both_ways(self, longest, **CASE), "endless")
        self.assertEqual(both_ways(self, least_length, **CASE), 0)
        zero = ("over", (1, 0), (0, 1), ((0, 0),))
        once = ("over", (1, 0), (0, 1), ((2, -3),))
        self.assertEqual(both_ways(self, by_length, **CASE, most=2), [zero, None, once])
        self.assertEqual(both_ways(self, within_length, **CASE, most=2), ("over", (1, 0), (0, 1), ((2, -3), (0, 0))))
        self.assertEqual(by_length(*CASE.values(), 0), [zero])
        self.assertEqual(both_ways(self, dearest_word, **CASE, number=2, price=(1, 1)), (-1, ("a", "b")))
        self.assertIsNone(dearest_word(*CASE.values(), 3, (1, 1)))
        self.assertEqual(dearest_word(*CASE.values(), 0, (1, 1)), (0, ()))
        self.assertEqual(dearest_word(*CASE.values(), 24, (1, 0)), (24, ("a",) * 12 + ("b",) * 12))
        self.assertEqual(len(by_length(*CASE.values(), 24)), 25)
        self.assertEqual(by_length(*CASE.values(), 24)[24], front_of([(24, -36)]))
        told_fronts = by_length(*CASE.values(), 2)
        told_fronts.clear()
        self.assertEqual(by_length(*CASE.values(), 2), [zero, None, once])

    def test_programs_of_few_words(self):
        memory = simple_memory()
        for body, most, least in [(("none",), 0, 0), (("either", ()), None, None), (("call", "f"), None, None), (A, 1, 1),
                                  (("times", 3, 9, A), 9, 3), (("any", ("none",)), 0, 0), (("any", ("call", "f")), 0, 0),
                                  (("times", 0, 0, A), 0, 0), (("any", A), "endless", 0), (("then", (A, ("any", B), B)), "endless", 2),
                                  (("either", (("then", (("call", "f"), ("call", "f"))), A)), "endless", 1),
                                  (("any", ("either", (("none",), B))), "endless", 0), (("then", (A, ("call", "f"))), None, None)]:
            program = Program({"f": body}, "f")
            self.assertEqual(longest(memory, program, 0, (0,)), most)
            self.assertEqual(least_length(memory, program, 0, (0,)), least)
            words = words_of(program, 5)
            for length, front in enumerate(by_length(memory, program, 0, (0,), 5)):
                self.assertEqual(front, front_of([read(memory, 0, word)[1] for word in words if len(word) == length]))

    def test_against_all_words(self):
        for drawing, memory, program, start, goals in drawn_cases(121, 150, 3, 3):
            case = {"memory": memory, "program": program, "start": start, "goals": goals}
            runs = runs_by_words(memory, program, start, goals, 5)
            fronts = by_length(memory, program, start, goals, 5)
            self.assertEqual(fronts, [front_of([pair for pair, _ in row]) for row in runs])
            within = None
            for most in range(6):
                within = joined(within, fronts[most])
                self.assertEqual(both_ways(self, within_length, **case, most=most), within)
                self.assertIs(is_below(fronts[most], within_length(memory, program, start, goals, 5)), True)
                self.assertIs(is_below(within, whole(memory, program, start, goals)), True)
                price = drawing.price()
                best = max([worth(pair, price) for pair, _ in runs[most]], default=None)
                words = [word for pair, word in runs[most] if worth(pair, price) == best]
                right = (best, min(words)) if words else None
                self.assertEqual(both_ways(self, dearest_word, **case, number=most, price=price), right)
            shortest_length = both_ways(self, least_length, **case)
            if any(runs):
                self.assertEqual(shortest_length, [bool(row) for row in runs].index(True))
            elif shortest_length is not None:
                self.assertGreater(shortest_length, 5)

    def test_longest(self):
        kinds = {}
        for drawing, memory, program, start, goals in drawn_cases(122, 150, 3, 3):
            right = most_at(tallied(memory), program, start, goals, (1, 0))
            self.assertEqual(both_ways(self, longest, memory=memory, program=program, start=start, goals=goals), right)
            least = least_length(memory, program, start, goals)
            self.assertIs(right is None, least is None)
            if least is not None:
                tale = dearest(negated(tallied(memory)), program, start, goals, (1, 0))
                self.assertEqual(told(negated(tallied(memory)), program, tale)[-1][1], (-least, 0))
            if right not in (None, "endless"):
                self.assertLessEqual(least, right)
                if right <= 8:
                    self.assertNotEqual(by_length(memory, program, start, goals, right)[right], None)
                    self.assertEqual(set(by_length(memory, program, start, goals, right + 3)[right + 1:]), {None})
            kinds[right if right in (None, "endless") else 0] = True
        self.assertEqual(len(kinds), 3)

    def test_settled(self):
        done = 0
        for drawing, memory, program, start, goals in drawn_cases(123, 120, 2, 3):
            length = settles(memory, program, start, goals)
            if length is not None and length <= 8:
                front = whole(memory, program, start, goals)
                within = within_length(memory, program, start, goals, length)
                for price in [drawing.price() for _ in range(4)]:
                    if at_price(front, price) != "endless":
                        self.assertEqual(at_price(within, price), at_price(front, price))
                        best = shortest(memory, program, start, goals, price)
                        word = first_word(memory, program, start, goals, price, 2000)
                        self.assertEqual(dearest_word(memory, program, start, goals, best[1], price), (best[0], word))
                        for less in range(best[1]):
                            other = dearest_word(memory, program, start, goals, less, price)
                            self.assertTrue(other is None or other[0] < best[0])
                        done += 1
        self.assertGreater(done, 100)

    def test_many_ways_to_one_word(self):
        memory = Memory(("a", "b"), (((1, 1, 0), (0, 0, 1)), ((1, 0, 2), (0, 1, 1))))
        double = Program({"f": ("either", (("then", (("call", "f"), ("call", "f"))), A, B, ("none",), ("call", "f")))}, "f")
        words = free(("a", "b"))
        self.assertEqual(by_length(memory, double, 0, (0, 1), 10), by_length(memory, words, 0, (0, 1), 10))
        for number in (0, 1, 9, 24):
            self.assertEqual(dearest_word(memory, double, 0, (0, 1), number, (2, 3)),
                             dearest_word(memory, words, 0, (0, 1), number, (2, 3)))
        self.assertEqual(dearest_word(memory, words, 0, (0, 1), 24, (0, 1)), (46, ("a",) * 24))
        flat = Memory(("a", "b"), (((0, 0, 0), (0, 0, 0)),))
        self.assertEqual(dearest_word(flat, double, 0, (0,), 24, (1, 1)), (0, ("a",) * 24))


class Refusing(unittest.TestCase):
    def test_wrong_values(self):
        for function in (longest, least_length):
            refuses(self, function, CASE, WRONG)
        for function in (by_length, within_length):
            refuses(self, function, {**CASE, "most": 3}, WRONG)
        refuses(self, dearest_word, {**CASE, "number": 3, "price": (1, 1)}, WRONG)

    def test_2000_triples_and_2001(self):
        """Triples of heads and two states."""
        for functions, values in [((longest, least_length), ()), ((by_length, within_length), (2,)), ((dearest_word,), (2, (1, 1)))]:
            for function in functions:
                for states, many, right in [(1, 2000, True), (1, 2001, False), (2, 500, True), (2, 501, False), (44, 1, True),
                                            (45, 1, False)]:
                    program = program_of_heads(many)
                    self.assertEqual(len(heads(program)), many)
                    case = (memory_of(states), program, 0, (0,))
                    if right:
                        function(*case, *values)
                    else:
                        caught(self, TooMany, {"most": 2000}, function, *case, *values)


if __name__ == "__main__":
    unittest.main()
