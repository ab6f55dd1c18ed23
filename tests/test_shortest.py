"""[71] the shortest of the dearest runs, [72] when all is reached, with [3], [5] and [70]."""

import unittest

from drawing import any_values, both_ways, caught, numbers_beyond, program_of_heads, refuses, simple_memory, simple_program
from drawing import wrong_values
from hitclocks.dearest import most_at
from hitclocks.errors import BadPaper, TooMany
from hitclocks.fronts import at_price, corners_at, joined
from hitclocks.lengths import by_length, within_length
from hitclocks.memories import Memory, read
from hitclocks.prices import amid, meeting
from hitclocks.programs import Program
from hitclocks.shortest import (corner_lengths, first_word, is_short_paper, settles, short_paper, short_tale, shortest,
                                shown_short)
from hitclocks.tales import is_tale, length_of, told
from hitclocks.wholes import whole
from reference import INFINITE, SCALE, mutants, short_worth, words_up_to, worths
from reference import is_short_paper as is_short_paper_by_words
from test_at_a_price import drawn_cases, memory_of
from test_at_all_prices import loops_of_pairs

A = ("read", "a")
B = ("read", "b")
F = ("f",)
THREE = Memory(("a", "b", "c"), (((0, 1, 0), (0, 0, 1), (0, 0, 0)),))
CHOICE = Program({"g": ("either", (("then", (("read", "c"), A)), B, A))}, "g")


def best_by_words(memory, program, start, goals, price):
    """The greatest worth and the least length by the reference; None without a number."""
    table = worths(memory, program, price, short_worth)[(program.first,)]
    found = [table[(start, goal)] for goal in goals if (start, goal) in table]
    if not found or max(found) == INFINITE:
        return None
    number = -(-max(found) // SCALE)
    return (number, number * SCALE - max(found))


class Shortest(unittest.TestCase):
    def test_by_hand(self):
        for price, best, word in [((1, 1), (1, 1), ("a",)), ((1, 2), (2, 1), ("b",)), ((2, 1), (2, 1), ("a",))]:
            case = {"memory": THREE, "program": CHOICE, "start": 0, "goals": (0,), "price": price}
            self.assertEqual(both_ways(self, shortest, **case), best)
            self.assertEqual(both_ways(self, first_word, **case, most=2000), word)
            self.assertEqual(first_word(*case.values(), 1), word)
            caught(self, TooMany, {"most": 0}, first_word, *case.values(), 0)
        endless = Program({"f": ("then", (("any", A), ("either", (B, ("none",)))))}, "f")
        for program, right in [(endless, None), (Program({"f": ("call", "f")}, "f"), None), (Program({"f": ("any", B)}, "f"), (0, 0)),
                               (Program({"f": ("times", 3, 5, B)}, "f"), (-9, 3)), (Program({"f": ("times", 3, 5, A)}, "f"), (10, 5)),
                               (Program({"f": ("any", ("either", (("none",), B)))}, "f"), (0, 0)),
                               (Program({"f": ("either", (("call", "f"), ("then", (A, B))))}, "f"), (-1, 2)), (simple_program(), (0, 0))]:
            self.assertEqual(shortest(simple_memory(), program, 0, (0,), (1, 1)), right)
            self.assertIs(short_tale(simple_memory(), program, 0, (0,), (1, 1)) is None, right is None)
            self.assertIs(first_word(simple_memory(), program, 0, (0,), (1, 1), 0 if right in (None, (0, 0)) else 9) is None, right is None)

    def test_first_of_the_words(self):
        flat = Memory(("a", "b"), (((0, 1, 0), (0, 1, 0)),))
        for body, word in [(("then", (("either", (B, A)), ("either", (A, B)))), ("a", "a")),
                           (("either", (("then", (B, A)), ("then", (A, B)))), ("a", "b")),
                           (("either", (("then", (B, A)), ("then", (("times", 0, 1, A), B)), ("times", 2, 2, B))), ("a", "b")),
                           (("times", 2, 2, ("either", (B, ("then", (("none",), A))))), ("a", "a"))]:
            self.assertEqual(first_word(flat, Program({"f": body}, "f"), 0, (0,), (1, 0), 2), word)
        two = Memory(("a", "b"), (((1, 1, 0), (0, 1, 0)), ((1, 0, 0), (0, 0, 0))))
        program = Program({"f": ("either", (B, A))}, "f")
        self.assertEqual(first_word(two, program, 0, (0, 1), (1, 1), 1), ("a",))
        self.assertEqual(first_word(two, program, 0, (0,), (1, 1), 1), ("b",))

    def test_drawn(self):
        kinds = {}
        for drawing, memory, program, start, goals in drawn_cases(131, 200, 3, 3):
            price = drawing.price()
            case = {"memory": memory, "program": program, "start": start, "goals": goals, "price": price}
            right = best_by_words(memory, program, start, goals, price)
            self.assertEqual(both_ways(self, shortest, **case), right)
            tale = both_ways(self, short_tale, **case)
            most = most_at(memory, program, start, goals, price)
            if right is None:
                self.assertIn(most, (None, "endless"))
                self.assertIsNone(tale)
                self.assertIsNone(first_word(memory, program, start, goals, price, 0))
                continue
            self.assertEqual(most, right[0])
            self.assertIs(is_tale(memory, program, tale), True)
            end, pair = told(memory, program, tale)[-1]
            self.assertEqual(tale[-1][:2], ((program.first,), start))
            self.assertIn(end, goals)
            self.assertEqual((price[0] * pair[0] + price[1] * pair[1], length_of(memory, program, tale)), right)
            word = both_ways(self, first_word, **case, most=2000)
            self.assertEqual(len(word), right[1])
            if right[1]:
                caught(self, TooMany, {"most": right[1] - 1}, first_word, *case.values(), right[1] - 1)
            if right[1] <= 6:
                words = []
                for one in words_up_to(program, right[1])[program.first]:
                    end, pair = read(memory, start, one)
                    if end in goals and (price[0] * pair[0] + price[1] * pair[1], len(one)) == right:
                        words.append(one)
                self.assertEqual(word, min(words))
            kinds[right[1]] = kinds.get(right[1], 0) + 1
        self.assertGreater(len(kinds), 4)

    def test_words_of_2000_letters(self):
        procedures = {"p0": ("times", 5, 5, ("then", (("call", "p1"), ("call", "p1")))), "p1": ("times", 5, 5, ("call", "p2")),
                      "p2": ("times", 5, 5, ("call", "p3")), "p3": ("times", 8, 8, ("either", (B, A)))}
        flat = Memory(("a", "b"), (((1, 0, 0), (0, 0, 0)), ((0, 0, 0), (1, 1, -1))))
        program = Program(procedures, "p0")
        word = first_word(flat, program, 0, (0,), (1, 1), 2000)
        self.assertEqual(word, ("a",) * 2000)
        self.assertEqual(first_word(flat, program, 0, (1,), (1, 1), 2000), ("a",) * 1999 + ("b",))
        caught(self, TooMany, {"most": 1999}, first_word, flat, program, 0, (0,), (1, 1), 1999)
        procedures["p0"] = ("times", 9, 9, ("times", 9, 9, ("call", "p1")))
        self.assertEqual(shortest(flat, Program(procedures, "p0"), 0, (0,), (1, 1)), (0, 16200))
        caught(self, TooMany, {"most": 2000}, first_word, flat, Program(procedures, "p0"), 0, (0,), (1, 1), 2000)
        names = ["q" + str(number) for number in range(60)]
        doubled = {name: ("then", (("call", after),) * 8) for name, after in zip(names, names[1:])}
        doubled["q59"] = A
        self.assertEqual(shortest(flat, Program(doubled, "q0"), 0, (0,), (1, 1)), (0, 8 ** 59))
        tale = short_tale(flat, Program(doubled, "q0"), 0, (0,), (1, 1))
        self.assertEqual(length_of(flat, Program(doubled, "q0"), tale), 8 ** 59)


class ShortPapers(unittest.TestCase):
    def judge(self, memory, program, start, goals, price, thing):
        right = is_short_paper_by_words(memory, program, price, thing)
        self.assertIs(is_short_paper(memory, program, price, thing), right, thing)
        if not right:
            caught(self, BadPaper, {}, shown_short, memory, program, start, goals, price, thing)
            return right
        triples = [((program.first,), start, goal) for goal in goals]
        pairs = [thing[1][triple] for triple in triples if triple in thing[1]]
        best = max(pairs, key=lambda pair: (pair[0], -pair[1]), default=None)
        if any(triple not in thing[0] and triple not in thing[1] for triple in triples):
            best = "open"
        self.assertEqual(shown_short(memory, program, start, goals, price, thing), best)
        known = best_by_words(memory, program, start, goals, price)
        if best is None:
            self.assertIsNone(most_at(memory, program, start, goals, price))
        elif best != "open":
            self.assertNotEqual(most_at(memory, program, start, goals, price), "endless")
            self.assertTrue(known is None or (known[0], -known[1]) <= (best[0], -best[1]))
        return right

    def test_by_hand(self):
        memory, program = simple_memory(), simple_program()
        for price, thing, right in [
                ((1, 1), ((), {(F, 0, 0): (0, 0)}), True), ((1, 1), ((), {(F, 0, 0): (0, -5)}), True),
                ((1, 1), ((), {(F, 0, 0): (0, 1)}), False), ((1, 1), ((), {(F, 0, 0): (1, 10 ** 11)}), True),
                ((3, 2), ((), {(F, 0, 0): (0, 0)}), True), ((2, 1), ((), {(F, 0, 0): (0, 0)}), False), ((1, 1), ((), {}), True),
                ((1, 1), ((), {(F, 0, 0): 0}), False), ((1, 1), ((), {(F, 0, 0): [0, 0]}), False),
                ((1, 1), ((), {(F, 0, 0): (0, False)}), False), ((1, 1), ((), {(F, 0, 0): (False, 0)}), False),
                ((1, 1), ((), {(F, 0, 0): (0, 0, 0)}), False), ((1, 1), (((F, 0, 0),), {}), False)]:
            self.assertIs(self.judge(memory, program, 0, (0,), price, thing), right, thing)
        self.assertEqual(shown_short(memory, program, 0, (0,), (1, 1), ((), {})), "open")
        # A round that is worth 0 has to be longer than nothing: its lengths count.
        level = Memory(("a", "b"), (((0, 1, 1), (0, -1, -1)),))
        self.assertIs(self.judge(level, program, 0, (0,), (1, 1), ((), {(F, 0, 0): (0, 0)})), True)
        self.assertIs(self.judge(level, Program({"f": ("any", A), "g": ("any", B)}, "g"), 0, (0,), (1, 1),
                                 ((), {(("g",), 0, 0): (0, 0), (("g", ()), 0, 0): (0, 0)})), True)

    def test_short_paper(self):
        shown = {}
        for drawing, memory, program, start, goals in drawn_cases(132, 150, 3, 3):
            price = drawing.price()
            case = {"memory": memory, "program": program, "start": start, "goals": goals, "price": price}
            thing = both_ways(self, short_paper, **case)
            most = most_at(memory, program, start, goals, price)
            self.assertIs(thing is None, most == "endless")
            if thing is not None:
                self.assertIs(both_ways(self, is_short_paper, memory=memory, program=program, price=price, thing=thing), True)
                self.assertIs(self.judge(memory, program, start, goals, price, thing), True)
                best = both_ways(self, shown_short, **case, paper=thing)
                self.assertEqual(best, shortest(memory, program, start, goals, price))
                self.assertIs(best is None, most is None)
                self.assertEqual(list(thing[1]), sorted(thing[1]))
                thing[1].clear()
                self.assertEqual(shown_short(*case.values(), short_paper(*case.values())), best)
            shown[most if most in (None, "endless") else 0] = True
        self.assertEqual(len(shown), 3)

    def test_one_thing_otherwise(self):
        judged = {True: 0, False: 0}
        program = Program({"f": ("then", (("any", ("either", (A, ("call", "g")))), ("times", 0, 2, ("call", "g")))),
                           "g": ("either", (B, ("any", B)))}, "f")
        memory = Memory(("a", "b"), (((1, -1, 0), (0, 0, -1)), ((1, 0, -1), (1, -2, 2))))
        for price in [(1, 0), (1, 1)]:
            thing = short_paper(memory, program, 0, (0, 1), price)
            kept = repr(thing)
            for other in mutants(thing):
                judged[self.judge(memory, program, 0, (0, 1), price, other)] += 1
            self.assertEqual(repr(thing), kept)
        self.assertGreater(min(judged.values()), 30)

    def test_drawn_papers(self):
        judged = {True: 0, False: 0}
        for drawing, memory, program, start, goals in drawn_cases(133, 120, 2, 2):
            price = drawing.price()
            thing = short_paper(memory, program, start, goals, price)
            for _ in range(8 if thing else 0):
                pairs = {triple: (worth + drawing.below(3) // 2 - drawing.below(9) // 8, length + drawing.below(3) - 1)
                         for triple, (worth, length) in thing[1].items() if drawing.below(5)}
                empty = tuple(triple for triple in thing[0] if drawing.below(5))
                judged[self.judge(memory, program, start, goals, price, (empty, pairs))] += 1
        self.assertGreater(min(judged.values()), 60)

    def test_any_values(self):
        memory, program = simple_memory(), simple_program()
        for thing in any_values():
            for value in (thing, ((), thing), ((thing,), {}), ((), {(F, 0, 0): thing}), ((), {(F, 0, 0): (0, thing)})):
                self.judge(memory, program, 0, (0,), (1, 1), value)


class Settling(unittest.TestCase):
    def test_by_hand(self):
        case = {"memory": simple_memory(), "program": simple_program(), "start": 0, "goals": (0,)}
        self.assertEqual(both_ways(self, corner_lengths, **case), [0])
        self.assertEqual(both_ways(self, settles, **case), 0)
        for program in (Program({"f": ("call", "f")}, "f"), Program({"f": ("any", ("either", (A, ("then", (A, B)))))}, "f")):
            front = whole(THREE, program, 0, (0,))
            self.assertIn(front, (None, ("endless",)))
            self.assertEqual(corner_lengths(THREE, program, 0, (0,)), [])
            self.assertIsNone(settles(THREE, program, 0, (0,)))
        body = ("either", (("then", (A, A, ("times", 3, 5, ("read", "c")))), ("then", (A, B, B)), ("then", (B, B, B))))
        program = Program({"f": body}, "f")
        self.assertEqual(whole(THREE, program, 0, (0,)), ("over", (1, 0), (0, 1), ((2, 0), (1, 2), (0, 3))))
        self.assertEqual(corner_lengths(THREE, program, 0, (0,)), [5, 3, 3])
        self.assertEqual(settles(THREE, program, 0, (0,)), 5)
        memory, loops = loops_of_pairs([(1, -1), (-1, 1)])
        self.assertEqual(whole(memory, loops, 0, (0,)), ("at", (1, 1), 0))
        self.assertEqual(corner_lengths(memory, loops, 0, (0,)), [0])
        program = Program({"f": ("then", (("any", A), ("any", B), ("times", 3, 4, B)))}, "f")
        self.assertEqual(corner_lengths(memory, program, 0, (0,)), [3])

    def test_corners(self):
        many = {}
        for drawing, memory, program, start, goals in drawn_cases(134, 200, 3, 3):
            case = {"memory": memory, "program": program, "start": start, "goals": goals}
            front = whole(memory, program, start, goals)
            lengths = both_ways(self, corner_lengths, **case)
            if front is None or front == ("endless",):
                self.assertEqual((lengths, settles(memory, program, start, goals)), ([], None))
                continue
            self.assertEqual(both_ways(self, settles, **case), max(lengths))
            if front[0] == "at":
                self.assertEqual(lengths, [shortest(memory, program, start, goals, front[1])[1]])
                continue
            prices = [front[1]] + [meeting(one, other) for one, other in zip(front[3], front[3][1:])] + [front[2]]
            self.assertEqual(len(lengths), len(front[3]))
            for at, corner in enumerate(front[3]):
                between = amid(prices[at], prices[at + 1])
                for price in (between, amid(prices[at], between), amid(between, prices[at + 1])):
                    self.assertEqual(corners_at(front, price), (corner,))
                    self.assertEqual(shortest(memory, program, start, goals, price)[1], lengths[at])
                if lengths[at] <= 5:
                    pairs = [[read(memory, start, word)[1] for word in words_up_to(program, lengths[at])[program.first]
                              if len(word) == length and read(memory, start, word)[0] in goals] for length in range(lengths[at] + 1)]
                    self.assertEqual([corner in row for row in pairs], [False] * lengths[at] + [True])
            many[len(lengths)] = many.get(len(lengths), 0) + 1
        self.assertGreater(len(many), 2)

    def test_least_number_that_is_enough(self):
        done = 0
        for drawing, memory, program, start, goals in drawn_cases(135, 150, 2, 3):
            length = settles(memory, program, start, goals)
            if length is None or length > 10:
                continue
            front = whole(memory, program, start, goals)
            fronts = by_length(memory, program, start, goals, length)
            enough = within_length(memory, program, start, goals, length)
            less = None
            for one in fronts[:-1]:
                less = joined(less, one)
            ends = [front[1]] if front[0] == "at" else [front[1], amid(front[1], front[2]), front[2]]
            if front[0] == "over":
                ends += [meeting(one, other) for one, other in zip(front[3], front[3][1:])]
                ends += [amid(one, other) for one in ends[:1] for other in ends[3:]] + [amid(one, front[2]) for one in ends[3:]]
            for price in ends:
                self.assertEqual(at_price(enough, price), at_price(front, price))
            lacking = corner_lengths(memory, program, start, goals).index(length)
            if front[0] == "over":
                prices = [front[1]] + [meeting(one, other) for one, other in zip(front[3], front[3][1:])] + [front[2]]
                ends = [amid(prices[lacking], prices[lacking + 1])]
            self.assertNotEqual(at_price(less, ends[0]), at_price(front, ends[0]))
            done += 1
        self.assertGreater(done, 80)


class Refusing(unittest.TestCase):
    def test_wrong_values(self):
        wrong = {**wrong_values(("memory", "memory"), ("program", "letters"), ("start", "state"), ("goals", "goals"), ("price", "price")),
                 "most": numbers_beyond(0, 2000), "paper": [(thing, BadPaper, {}) for thing in any_values() if thing != ((), {})]}
        case = {"memory": simple_memory(), "program": simple_program(), "start": 0, "goals": (0,)}
        for function in (corner_lengths, settles):
            refuses(self, function, case, wrong)
        case["price"] = (1, 1)
        for function in (shortest, short_tale, short_paper):
            refuses(self, function, case, wrong)
        refuses(self, first_word, {**case, "most": 7}, wrong)
        refuses(self, shown_short, {**case, "paper": ((), {})}, wrong)
        for name in ("memory", "program", "price"):
            for thing, error, attributes in wrong[name]:
                values = {"memory": simple_memory(), "program": simple_program(), "price": (1, 1), "thing": None, name: thing}
                caught(self, error, attributes, is_short_paper, **values)

    def test_2000_triples_and_which_reason_comes_first(self):
        for states, many, right in [(1, 2000, True), (1, 2001, False), (4, 125, True), (4, 126, False)]:
            program, memory = program_of_heads(many), memory_of(states)
            for function, more in [(shortest, ((1, 1),)), (short_tale, ((1, 1),)), (short_paper, ((1, 1),)), (first_word, ((1, 1), 1)),
                                   (corner_lengths, ()), (settles, ()), (shown_short, ((1, 1), ((), {}))), (shown_short, ((1, 1), None)),
                                   (first_word, ((1, 1), 0))]:
                case = (memory, program, 0, tuple(range(states)), *more)
                if not right:
                    caught(self, TooMany, {"most": 2000}, function, *case)
                elif more[1:] == (None,):
                    caught(self, BadPaper, {}, function, *case)
                elif more[1:] == (0,):
                    caught(self, TooMany, {"most": 0}, function, *case)
                else:
                    function(*case)
            if right:
                self.assertIs(is_short_paper(memory, program, (1, 1), None), False)
            else:
                caught(self, TooMany, {"most": 2000}, is_short_paper, memory, program, (1, 1), None)


if __name__ == "__main__":
    unittest.main()
