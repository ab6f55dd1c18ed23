"""[40] triples, most_at, dearest, pump, is_pump; [41] papers; with [3], [4] and [5]."""

import unittest

from drawing import Drawing, any_values, both_ways, caught, simple_memory, simple_program
from hitclocks.dearest import dearest, most_at
from hitclocks.errors import BadGoals, BadMemory, BadPaper, BadPrice, BadProgram, BadState, NoLetter, TooMany
from hitclocks.memories import Memory, negated
from hitclocks.papers import is_paper, paper, shown_most
from hitclocks.prices import worth
from hitclocks.programs import Program
from hitclocks.pumps import is_pump, pump
from hitclocks.tales import is_tale, told, told_gap
from reference import is_paper as is_paper_by_words
from reference import most, mutants, pump_gain, worths

A = ("read", "a")
B = ("read", "b")
PRICES = [(1, 0), (3, 1), (3, 2), (1, 1), (2, 3), (0, 1)]
F = ("f",)


def drawn_cases(seed, many, states, depth):
    drawing = Drawing(seed)
    for _ in range(many):
        memory = drawing.memory(1 + drawing.below(states), 2, 3)
        program = drawing.program(1 + drawing.below(3), depth, memory.letters)
        start = drawing.below(len(memory))
        goals = tuple(sorted({drawing.below(len(memory)) for _ in range(2)}))
        yield drawing, memory, program, start, goals


def memory_of(states, letters="a"):
    """States in a ring, each letter going on to the next one."""
    return Memory(tuple(letters), tuple(tuple(((state + 1) % states, 1, -1) for _ in letters) for state in range(states)))


class AtAPrice(unittest.TestCase):
    def all_is_right(self, memory, program, start, goals, price):
        """What the functions return at a price is what the reference says; returns the most."""
        case = {"memory": memory, "program": program, "start": start, "goals": goals, "price": price}
        known = worths(memory, program, price)
        right = most(memory, program, start, goals, price, known)
        self.assertEqual(both_ways(self, most_at, **case), right)
        tale = both_ways(self, dearest, **case)
        gains = both_ways(self, pump, **case)
        shown = both_ways(self, paper, **case)
        if right == "endless":
            self.assertIsNone(tale)
            self.assertIsNone(shown)
            self.assertIs(both_ways(self, is_pump, **case, thing=gains), True)
            self.assertGreater(worth(pump_gain(memory, program, start, goals, gains), price), 0)
            return right
        self.assertIsNone(gains)
        self.assertIs(both_ways(self, is_paper, memory=memory, program=program, price=price, thing=shown), True)
        self.assertIs(is_paper_by_words(memory, program, price, shown), True)
        self.assertEqual(both_ways(self, shown_most, **case, paper=shown), right)
        self.assertEqual(list(shown[1]), sorted(shown[1]))
        if right is None:
            self.assertIsNone(tale)
        else:
            end, pair = told(memory, program, tale)[-1]
            self.assertEqual(tale[-1][:2], ((program.first,), start))
            self.assertIn(end, goals)
            self.assertEqual(worth(pair, price), right)
        return right

    def test_by_hand(self):
        for price, right in [((1, 0), "endless"), ((2, 1), "endless"), ((3, 2), 0), ((1, 1), 0), ((0, 1), 0)]:
            self.assertEqual(self.all_is_right(simple_memory(), simple_program(), 0, (0,), price), right)

    def test_drawn(self):
        seen = {}
        for drawing, memory, program, start, goals in drawn_cases(61, 260, 3, 3):
            for price in [drawing.price() for _ in range(3)]:
                right = self.all_is_right(memory, program, start, goals, price)
                seen[right if right in (None, "endless") else 0] = seen.get(right if right in (None, "endless") else 0, 0) + 1
        self.assertGreater(min(seen.values()), 80)
        self.assertEqual(len(seen), 3)

    def test_programs_of_few_words(self):
        for body, right in [(("none",), 0), (("either", ()), None), (("call", "f"), None), (("then", (A, ("call", "f"))), None),
                            (("any", ("none",)), 0), (("any", ("call", "f")), 0), (("times", 0, 0, A), 0), (A, 2),
                            (("times", 2, 9, A), 18), (("any", ("either", (("none",), B))), 0),
                            (("either", (("call", "f"), B)), -3), (("then", (("any", B), ("call", "f"))), None),
                            (("either", (("then", (("call", "f"), ("call", "f"))), B)), -3),
                            (("either", (("then", (("call", "f"), ("call", "f"))), A)), "endless"),
                            (("times", 0, 2, ("either", (("call", "f"), ("then", ())))), 0)]:
            program = Program({"f": body}, "f")
            self.assertEqual(self.all_is_right(simple_memory(), program, 0, (0,), (1, 1)), right, body)

    def test_rings_of_procedures(self):
        program = Program({"f": ("either", (("call", "g"), ("then", (B, ("call", "h"))))), "g": ("call", "h"),
                           "h": ("either", (("call", "f"), ("then", (("call", "g"), A)), ("none",)))}, "f")
        for price in PRICES:
            self.all_is_right(simple_memory(), program, 0, (0,), price)
        self.assertEqual(most_at(simple_memory(), program, 0, (0,), (0, 1)), 0)
        self.assertEqual(most_at(simple_memory(), program, 0, (0,), (5, 1)), "endless")

    def test_an_endless_part_that_no_run_needs(self):
        program = Program({"f": ("either", (B, ("then", (("any", A), ("either", ()))))), "g": ("any", A)}, "f")
        self.assertEqual(self.all_is_right(simple_memory(), program, 0, (0,), (1, 1)), -3)
        two = Memory(("a", "b"), (((1, 5, 5), (0, 0, 1)), ((1, 5, 5), (1, 0, 0))))
        program = Program({"f": ("either", (("any", A), B))}, "f")
        self.assertEqual(self.all_is_right(two, program, 0, (0,), (1, 1)), 1)
        self.assertEqual(self.all_is_right(two, program, 0, (1,), (1, 1)), "endless")
        self.assertEqual(self.all_is_right(two, program, 0, (0, 1), (1, 1)), "endless")

    def test_a_round_far_below(self):
        names = ["p" + str(number) for number in range(12)]
        procedures = {name: ("then", (("call", after), ("times", 0, 2, B))) for name, after in zip(names, names[1:])}
        procedures["p11"] = ("either", (("then", (A, ("call", "p0"), B)), ("none",)))
        self.assertEqual(self.all_is_right(simple_memory(), Program(procedures, "p0"), 0, (0,), (2, 1)), "endless")
        self.assertEqual(self.all_is_right(simple_memory(), Program(procedures, "p0"), 0, (0,), (3, 2)), 0)

    def test_facts(self):
        for drawing, memory, program, start, goals in drawn_cases(62, 60, 3, 3):
            price = drawing.price()
            runs = [most_at(memory, program, start, (goal,), price) for goal in goals]
            right = "endless" if "endless" in runs else max([run for run in runs if run is not None], default=None)
            self.assertEqual(most_at(memory, program, start, goals, price), right)
            empty = [most_at(memory, program, start, goals, some) is None for some in PRICES]
            self.assertEqual(len(set(empty)), 1)
            turned = most_at(negated(memory), program, start, goals, price)
            if right is not None and right != "endless" and turned != "endless":
                self.assertLessEqual(-turned, right)

    def test_greatest_numbers_of_digits(self):
        names = ["p" + str(number) for number in range(41)]
        procedures = {name: ("times", 3, 3, ("call", after)) for name, after in zip(names, names[1:])}
        procedures["p40"] = A
        price = (10 ** 12 - 1, 10 ** 12 - 2)
        self.assertEqual(most_at(simple_memory(), Program(procedures, "p0"), 0, (0,), price), 2 * price[0] * 3 ** 40)
        shown = paper(simple_memory(), Program(procedures, "p0"), 0, (0,), price)
        self.assertIs(is_paper(simple_memory(), Program(procedures, "p0"), price, shown), True)

    def test_12_levels_of_bodies(self):
        body = A
        for level in range(11):
            body = [("then", (body, B)), ("either", (body, B)), ("times", 0, 1, body), ("any", body)][level % 4]
        program = Program({"f": body}, "f")
        for price in PRICES:
            self.all_is_right(simple_memory(), program, 0, (0,), price)


class Limits(unittest.TestCase):
    def functions(self, memory, program):
        """All functions of parts 4 and 5, with what they are passed."""
        case = (memory, program, 0, (0,), (1, 1))
        return [(most_at, case), (dearest, case), (pump, case), (paper, case), (is_pump, case + (None,)),
                (is_paper, (memory, program, (1, 1), None)), (shown_most, case + (None,))]

    def test_2000_triples_and_more(self):
        # 20 heads and 10 states are 2000 triples; one head more is too many.
        procedures = {"p" + str(number): ("any", A) for number in range(10)}
        memory = memory_of(10)
        right = Program(procedures, "p0")
        self.assertEqual(most_at(memory, right, 0, (3,), (1, 1)), 0)
        self.assertIsNotNone(paper(memory, right, 0, (3,), (1, 1)))
        self.assertIs(is_paper(memory, right, (1, 1), None), False)
        wrong = Program({**procedures, "z": A}, "p0")
        for function, values in self.functions(memory, wrong):
            caught(self, TooMany, {"most": 2000}, function, *values)
        caught(self, TooMany, {"most": 2000}, most_at, memory_of(120), Program({"f": A}, "f"), 0, (0,), (1, 1))
        self.assertEqual(most_at(memory_of(44), Program({"f": A}, "f"), 0, (1,), (1, 1)), 0)
        caught(self, TooMany, {"most": 2000}, most_at, memory_of(45), Program({"f": A}, "f"), 0, (1,), (1, 1))

    def test_too_many_is_behind_all_others(self):
        memory, program = memory_of(120), Program({"f": A}, "f")
        for function in (most_at, dearest, pump, paper):
            caught(self, BadPrice, {}, function, memory, program, 0, (0,), (2, 2))
        caught(self, BadPrice, {}, is_pump, memory, program, 0, (0,), (2, 2), None)
        caught(self, BadPrice, {}, is_paper, memory, program, (2, 2), None)
        caught(self, BadPrice, {}, shown_most, memory, program, 0, (0,), (2, 2), None)
        caught(self, TooMany, {"most": 2000}, shown_most, memory, program, 0, (0,), (1, 1), None)

    def test_2000_triples_of_44_states(self):
        memory = memory_of(44, "ab")
        program = Program({"f": ("either", (("then", (A, ("call", "f"), B)), ("none",)))}, "f")
        for price, right in [((1, 1), 0), ((2, 1), "endless"), ((1, 2), 0)]:
            self.assertEqual(most_at(memory, program, 0, (0,), price), right)
        shown = paper(memory, program, 0, (0, 5), (1, 2))
        self.assertEqual(shown_most(memory, program, 0, (0, 5), (1, 2), shown), 0)

    def test_the_leftmost_counts(self):
        memory, program = simple_memory(), simple_program()
        foreign = Program({"f": A, "g": ("times", 0, 0, ("read", "z"))}, "f")
        for function, more in [(most_at, ()), (dearest, ()), (pump, ()), (paper, ()), (is_pump, (0,)), (shown_most, (0,))]:
            for thing in any_values():
                if not isinstance(thing, Memory):
                    caught(self, BadMemory, {"part": None}, function, thing, 0, -1, (), 0, *more)
                if not isinstance(thing, Program):
                    caught(self, BadProgram, {"part": None}, function, memory, thing, -1, (), 0, *more)
            caught(self, NoLetter, {"letter": "z"}, function, memory, foreign, -1, (), 0, *more)
            for wrong in [-1, 1, True, False, None, "0", (0,)]:
                caught(self, BadState, {}, function, memory, program, wrong, (), 0, *more)
            for wrong in [(), [0], (0, 0), (1,), (False,), (0, None), None, 0, {0: 0}, ((0,),)]:
                caught(self, BadGoals, {}, function, memory, program, 0, wrong, 0, *more)
            for wrong in [(0, 0), (2, 2), (True, 0), [1, 0], None, 1]:
                caught(self, BadPrice, {}, function, memory, program, 0, (0,), wrong, *more)
        two = memory_of(2, "ab")
        caught(self, BadGoals, {}, most_at, two, program, 0, (1, 0), (1, 1))
        for thing in any_values():
            if not isinstance(thing, Memory):
                caught(self, BadMemory, {"part": None}, is_paper, thing, 0, 0, 0)
            if not isinstance(thing, Program):
                caught(self, BadProgram, {"part": None}, is_paper, memory, thing, 0, 0)
        caught(self, NoLetter, {"letter": "z"}, is_paper, memory, foreign, 0, 0)
        caught(self, BadPrice, {}, is_paper, memory, program, (True, 0), 0)


class Papers(unittest.TestCase):
    def judge(self, memory, program, start, goals, price, thing):
        """Whether any value is a paper that holds, which has to be what the reference tells."""
        right = is_paper_by_words(memory, program, price, thing)
        self.assertIs(is_paper(memory, program, price, thing), right, (price, thing))
        if not right:
            caught(self, BadPaper, {}, shown_most, memory, program, start, goals, price, thing)
            return right
        triples = [((program.first,), start, goal) for goal in goals]
        numbers = [thing[1][triple] for triple in triples if triple in thing[1]]
        known = [triple for triple in triples if triple in thing[0] or triple in thing[1]]
        shows = "open" if len(known) < len(triples) else max(numbers, default=None)
        self.assertEqual(shown_most(memory, program, start, goals, price, thing), shows)
        self.never_below(memory, program, start, goals, price, shows)
        return right

    def never_below(self, memory, program, start, goals, price, shows):
        """HEART: what a paper that holds shows is never below the most."""
        right = most(memory, program, start, goals, price)
        if shows is None:
            self.assertIsNone(right)
        elif shows != "open" and right is not None:
            self.assertNotEqual(right, "endless")
            self.assertGreaterEqual(shows, right)

    def test_by_hand(self):
        memory, program = simple_memory(), simple_program()
        for price, thing, right in [
                ((1, 1), ((), {(F, 0, 0): 0}), True), ((1, 1), ((), {(F, 0, 0): 7}), True), ((1, 1), ((), {(F, 0, 0): -1}), False),
                ((2, 1), ((), {(F, 0, 0): 0}), False), ((3, 2), ((), {(F, 0, 0): 0}), True), ((1, 1), ((), {}), True),
                ((1, 1), (((F, 0, 0),), {}), False), ((1, 1), (((F, 0, 0),), {(F, 0, 0): 0}), False),
                ((1, 1), ([], {(F, 0, 0): 0}), False), ((1, 1), [(), {(F, 0, 0): 0}], False), ((1, 1), ((), {(F, 0, 0): False}), False),
                ((1, 1), ((), {(F, False, 0): 0}), False), ((1, 1), ((), {(F, 0, 0): 0, (F, 0, 1): 0}), False)]:
            self.assertIs(self.judge(memory, program, 0, (0,), price, thing), right, (price, thing))
        self.assertEqual(shown_most(memory, program, 0, (0,), (1, 1), ((), {(F, 0, 0): 7})), 7)
        self.assertEqual(shown_most(memory, program, 0, (0,), (1, 1), ((), {})), "open")

    def test_nothing_is_stronger_than_open(self):
        program = Program({"f": ("then", (("call", "g"), ("call", "h"))), "g": ("any", A), "h": ("call", "h")}, "f")
        thing = (((F, 0, 0), (("h",), 0, 0)), {})
        self.assertIs(self.judge(simple_memory(), program, 0, (0,), (1, 1), thing), True)
        self.assertIsNone(shown_most(simple_memory(), program, 0, (0,), (1, 1), thing))
        for wrong in [(((F, 0, 0),), {}), (((("h",), 0, 0), (F, 0, 0)), {}), (((F, 0, 0), (F, 0, 0), (("h",), 0, 0)), {}),
                      (thing[0], {(("h",), 0, 0): 5}), (thing[0], {(F, 0, 0): 0})]:
            self.assertIs(self.judge(simple_memory(), program, 0, (0,), (1, 1), wrong), False)

    def test_triples_of_which_no_run_is(self):
        # A paper may tell numbers of triples without runs, in a ring that holds itself.
        program = Program({"f": ("call", "g"), "g": ("then", (("call", "g"), B))}, "f")
        thing = ((), {(F, 0, 0): -5, (("g",), 0, 0): -5})
        self.assertIs(self.judge(simple_memory(), program, 0, (0,), (1, 1), thing), True)
        self.assertEqual(shown_most(simple_memory(), program, 0, (0,), (1, 1), thing), -5)
        self.assertIs(self.judge(simple_memory(), program, 0, (0,), (1, 1), ((), {(F, 0, 0): -6, (("g",), 0, 0): -5})), False)

    def test_one_thing_otherwise(self):
        judged = {True: 0, False: 0}
        program = Program({"f": ("then", (("any", ("either", (A, ("call", "g")))), ("times", 0, 2, ("call", "g")))),
                           "g": ("either", (B, ("any", B)))}, "f")
        memory = Memory(("a", "b"), (((1, -1, 0), (0, 0, -1)), ((1, 0, -1), (1, -2, 2))))
        for price in [(1, 0), (1, 1)]:
            shown = paper(memory, program, 0, (0, 1), price)
            kept = repr(shown)
            for thing in mutants(shown):
                judged[self.judge(memory, program, 0, (0, 1), price, thing)] += 1
            self.assertEqual(repr(shown), kept)
        self.assertGreater(min(judged.values()), 30)

    def test_drawn_papers(self):
        judged = {True: 0, False: 0}
        for drawing, memory, program, start, goals in drawn_cases(63, 150, 2, 2):
            price = drawing.price()
            shown = paper(memory, program, start, goals, price)
            if shown is None:
                continue
            for _ in range(8):
                numbers = {triple: number + drawing.below(3) - drawing.below(2) for triple, number in shown[1].items()
                           if drawing.below(5)}
                empty = tuple(triple for triple in shown[0] if drawing.below(5))
                judged[self.judge(memory, program, start, goals, price, (empty, numbers))] += 1
        self.assertGreater(min(judged.values()), 100)

    def test_any_values(self):
        for thing in any_values() + [((), None), (None, {}), ((None,), {}), ((), {None: 0}), ((), {(F, 0, 0): None})]:
            self.judge(simple_memory(), simple_program(), 0, (0,), (1, 1), thing)
            self.judge(simple_memory(), simple_program(), 0, (0,), (1, 1), ((), thing))
            self.judge(simple_memory(), simple_program(), 0, (0,), (1, 1), ((thing,), {(F, 0, 0): 0}))
            self.judge(simple_memory(), simple_program(), 0, (0,), (1, 1), ((), {(F, 0, 0): thing}))

    def test_papers_are_new_each_time(self):
        first = paper(simple_memory(), simple_program(), 0, (0,), (1, 1))
        first[1].clear()
        self.assertEqual(paper(simple_memory(), simple_program(), 0, (0,), (1, 1))[1], {(F, 0, 0): 0})


class Pumps(unittest.TestCase):
    def judge(self, memory, program, start, goals, price, thing):
        gained = pump_gain(memory, program, start, goals, thing)
        right = gained is not None and worth(gained, price) > 0
        self.assertIs(is_pump(memory, program, start, goals, price, thing), right, thing)
        return right

    def test_one_thing_otherwise(self):
        judged = {True: 0, False: 0}
        program = Program({"f": ("either", (("then", (("call", "g"), A)), B)), "g": ("then", (("any", ("then", (A, B))), B))}, "f")
        memory = Memory(("a", "b"), (((1, 1, 0), (0, 0, -1)), ((0, 0, -1), (0, 1, 2))))
        for start, goals in [(0, (0, 1)), (1, (1,))]:
            gains = pump(memory, program, start, goals, (1, 1))
            kept = repr(gains)
            for thing in mutants(gains):
                judged[self.judge(memory, program, start, goals, (1, 1), thing)] += 1
            self.assertEqual(repr(gains), kept)
            for price in PRICES:
                self.judge(memory, program, start, goals, price, gains)
            for other in [(0, (0,)), (1, (0,)), (0, (1,))]:
                self.judge(memory, program, other[0], other[1], (1, 1), gains)
        self.assertGreater(min(judged.values()), 0)

    def test_by_hand(self):
        lap = (("gap", F, 0, 0), (F, 0, ("either", 0, ("then", (("read",), ("call", 0), ("read",))))))
        twice = lap + ((F, 0, ("either", 0, ("then", (("read",), ("call", 1), ("read",))))),)
        rest = ((F, 0, ("either", 1, ("none",))),)
        memory, program = simple_memory(), simple_program()
        for price, thing, right in [((2, 1), (lap, lap, rest), True), ((3, 2), (lap, lap, rest), False),
                                    ((2, 1), (twice, lap, rest), True), ((2, 1), (lap, twice, rest), True),
                                    ((2, 1), (lap[:1], lap, rest), False), ((2, 1), (lap, lap[:1], rest), False),
                                    ((2, 1), (lap, lap, lap), False), ((2, 1), [lap, lap, rest], False),
                                    ((2, 1), (rest, lap, rest), False), ((2, 1), (lap, lap), False)]:
            self.assertIs(is_pump(memory, program, 0, (0,), price, thing), right, thing)
        program = Program({"f": ("either", (("then", (("call", "f"), ("call", "f"))), A))}, "f")
        both = (("gap", F, 0, 0), (F, 0, ("either", 0, ("then", (("call", 0), ("call", 0))))))
        one = (("gap", F, 0, 0), (F, 0, ("either", 1, ("read",))), (F, 0, ("either", 0, ("then", (("call", 0), ("call", 1))))))
        rest = ((F, 0, ("either", 1, ("read",))),)
        self.assertIs(is_pump(memory, program, 0, (0,), (1, 1), (both, one, rest)), True)
        self.assertIs(is_pump(memory, program, 0, (0,), (1, 1), (one, both, rest)), False)
        self.assertIs(is_pump(memory, program, 0, (0,), (1, 1), (one[:2], one, rest)), False)
        self.assertEqual(told_gap(memory, program, both)[-1][2], 2)

    def test_counts_and_places_of_rounds_that_gain(self):
        memory = Memory(("a", "b"), (((1, 2, 0), (0, 0, 0)), ((0, 2, 0), (1, 0, 0))))
        program = Program({"f": ("either", (("then", (("any", ("call", "f")), A)), B)), "g": ("either", (("call", "f"), A))}, "f")

        def of_f(state, loop):
            return (F, state, ("either", 0, ("then", (("any", loop), ("read",)))))

        loop = ("f", (0, 0))
        gap = ("gap", F, 0, 0)
        rest = ((F, 0, ("either", 1, ("read",))),)
        # Twice the gap and two letters, from 0 to 0; then once; then not at all.
        twice = (gap, (loop, 0, ("end",)), (loop, 0, ("more", ("call", 0), 1)), of_f(0, 2), (loop, 1, ("end",)),
                 (loop, 0, ("more", ("call", 3), 4)), (loop, 0, ("more", ("call", 0), 5)), of_f(0, 6))
        once = twice[:5] + ((loop, 0, ("more", ("call", 3), 4)), of_f(0, 5))
        never = (gap, (loop, 0, ("end",)), of_f(0, 1), (loop, 1, ("end",)), (loop, 0, ("more", ("call", 2), 3)), of_f(0, 4))
        self.assertEqual([told_gap(memory, program, lap)[-1] for lap in (twice, once, never)],
                         [(0, (4, 0), 2), (0, (4, 0), 1), (0, (4, 0), 0)])
        for way, lap, right in [(once, once, True), (once, twice, False), (once, never, False), (twice, once, True),
                                (never, once, False), (once, once[:4], False), (once, once[:5], False), (once[:4], once, False)]:
            self.assertIs(self.judge(memory, program, 0, (0,), (1, 1), (way, lap, rest)), right)
        # Once the gap, the start and the end alike: but another head, or another end.
        other = once + ((("g",), 0, ("either", 0, ("call", 6))),)
        self.assertIs(self.judge(memory, program, 0, (0,), (1, 1), (once, other, rest)), False)
        self.assertIs(self.judge(memory, program, 0, (0, 1), (1, 1), (once[:4], once[:4], rest)), False)
        self.assertIs(self.judge(memory, program, 0, (0, 1), (1, 1), (once[:4], once, rest)), True)
        self.assertIs(self.judge(memory, program, 0, (0,), (1, 1), (other, once, rest)), False)
        self.assertIs(self.judge(memory, program, 0, (0,), (1, 1), (once, once, ((F, 1, ("either", 1, ("read",))),))), False)

    def test_any_values(self):
        for thing in any_values():
            gains = pump(simple_memory(), simple_program(), 0, (0,), (2, 1))
            for value in [thing, (thing,) + gains[1:], (gains[0], thing, gains[2]), gains[:2] + (thing,)]:
                self.judge(simple_memory(), simple_program(), 0, (0,), (2, 1), value)

    def test_there_is_one_just_if_endless(self):
        for drawing, memory, program, start, goals in drawn_cases(64, 120, 3, 3):
            price = drawing.price()
            gains = pump(memory, program, start, goals, price)
            self.assertIs(gains is None, most(memory, program, start, goals, price) != "endless")
            if gains is not None:
                self.assertIs(self.judge(memory, program, start, goals, price, gains), True)
                self.assertIs(is_tale(memory, program, gains[2]), True)


if __name__ == "__main__":
    unittest.main()
