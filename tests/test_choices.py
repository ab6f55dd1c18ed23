"""[121] case_fronts, plan, is_plan, with [3], [4] and [5]."""

import unittest

from drawing import Drawing, any_values, both_ways, caught, program_of_heads, simple_memory, simple_program, wrong_values
from hitclocks.choices import case_fronts, is_plan, plan
from hitclocks.dearest import most_at
from hitclocks.errors import BadCases, BadPrice, TooMany
from hitclocks.fronts import at_price
from hitclocks.memories import Memory
from hitclocks.prices import worth
from hitclocks.programs import Program
from hitclocks.stairs import best_at
from hitclocks.wholes import whole
from reference import is_paper as is_paper_by_words
from reference import mutants, pump_gain
from test_at_a_price import PRICES, memory_of
from test_at_all_prices import pair_of_run

A = ("read", "a")
B = ("read", "b")
SIMPLE = (simple_memory(), simple_program(), 0, (0,))
FLAT = (simple_memory(), Program({"f": ("either", (A, B))}, "f"), 0, (0,))
SILENT = (simple_memory(), Program({"f": ("call", "f"), "g": A}, "f"), 0, (0,))
ALWAYS = (Memory(("a",), (((0, 1, 1),),)), Program({"g": ("any", A)}, "g"), 0, (0,))


def is_plan_by_words(cases, price, thing):
    if type(thing) is not tuple or len(thing) != 3 or type(thing[0]) is not int or not 0 <= thing[0] < len(cases):
        return False
    index, shown, others = thing
    if type(others) not in (list, tuple) or len(others) != len(cases):
        return False

    def is_pump(case, item):
        gained = pump_gain(*case, item)
        return gained is not None and worth(gained, price) > 0

    if shown is None:
        return all(is_pump(case, item) for case, item in zip(cases, others))
    memory, program, start, goals = cases[index]
    if not is_paper_by_words(memory, program, price, shown):
        return False
    triples = [((program.first,), start, goal) for goal in goals]
    if any(triple not in shown[0] and triple not in shown[1] for triple in triples):
        return False
    numbers = [shown[1][triple] for triple in triples if triple in shown[1]]
    for at, item in enumerate(others):
        if not numbers or at == index:
            if item is not None:
                return False
        else:
            pair = pair_of_run(*cases[at], item)
            if not is_pump(cases[at], item) and (pair is None or worth(pair, price) < max(numbers)):
                return False
    return True


def drawn_lists(seed, many):
    drawing = Drawing(seed)
    for _ in range(many):
        cases = []
        for _ in range(1 + drawing.below(4)):
            memory = drawing.memory(1 + drawing.below(2), 2, 3)
            goals = tuple(sorted({drawing.below(len(memory)) for _ in range(2)}))
            cases.append((memory, drawing.program(1 + drawing.below(2), 2, memory.letters), drawing.below(len(memory)), goals))
        yield drawing, cases


class Cases(unittest.TestCase):
    def test_fronts(self):
        for _, cases in drawn_lists(351, 60):
            fronts = both_ways(self, case_fronts, cases=cases)
            self.assertEqual(fronts, [whole(*case) for case in cases])
            fronts.clear()
            self.assertEqual(case_fronts(tuple(cases)), [whole(*case) for case in cases])

    def test_12_cases_and_13(self):
        self.assertEqual(len(case_fronts([SIMPLE] * 12)), 12)
        self.assertIs(is_plan([SIMPLE] * 12, (1, 1), plan([SIMPLE] * 12, (1, 1))), True)
        functions = [(case_fronts, ()), (plan, (None,)), (is_plan, (None, None))]
        for function, rest in functions:
            for thing in any_values() + [[SIMPLE] * 13, {0: SIMPLE}, {SIMPLE[2]: SIMPLE}]:
                right = {"at": 0 if isinstance(thing, (list, tuple)) and 1 <= len(thing) <= 12 else None}
                caught(self, BadCases, right, function, thing, *rest)
            for at in range(3):
                for wrong in wrong_cases():
                    caught(self, BadCases, {"at": at}, function, [SIMPLE] * at + [wrong, None], *rest)
        for price, error, attributes in wrong_values(("price", "price"))["price"]:
            caught(self, BadPrice, attributes, plan, [SIMPLE], price)
            caught(self, error, attributes, is_plan, [SIMPLE], price, None)

    def test_2000_triples(self):
        # 5 heads and 20 states are 2000 triples.
        fits = (memory_of(20), program_of_heads(5), 0, (1,))
        over = (memory_of(20), program_of_heads(6), 0, (1,))
        self.assertEqual(len(case_fronts([fits, fits])), 2)
        self.assertIs(is_plan([fits, SIMPLE], (1, 1), plan([fits, SIMPLE], (1, 1))), True)
        for cases in ([over], [SIMPLE, over], [over, SIMPLE]):
            caught(self, TooMany, {"most": 2000}, case_fronts, cases)
            caught(self, TooMany, {"most": 2000}, plan, cases, (1, 1))
            caught(self, TooMany, {"most": 2000}, is_plan, cases, (1, 1), None)
            caught(self, BadCases, {"at": len(cases)}, case_fronts, cases + [None])
            caught(self, BadPrice, {}, plan, cases, None)


def wrong_cases():
    found = [thing for thing in any_values()] + [list(SIMPLE), SIMPLE + (0,), SIMPLE[:3]]
    for at, thing in [(0, None), (0, simple_program()), (1, None), (1, simple_memory()), (1, Program({"f": ("read", "c")}, "f")), (2, 1), (2, True),
                      (2, -1), (2, None), (3, ()), (3, [0]), (3, (True,)), (3, (0, 0)), (3, (1,)), (3, 0)]:
        found.append(SIMPLE[:at] + (thing,) + SIMPLE[at + 1:])
    return found


class Plans(unittest.TestCase):
    def judge(self, cases, price, thing):
        right = is_plan_by_words(cases, price, thing)
        kept = repr(thing)
        self.assertIs(is_plan(cases, price, thing), right, thing)
        self.assertEqual(repr(thing), kept)
        if right:
            # Whatever is a plan names a best one.
            self.assertIn(thing[0], best_at([whole(*case) for case in cases], price))
        return right

    def test_drawn(self):
        kinds = {}
        for drawing, cases in drawn_lists(352, 250):
            price = drawing.price()
            thing = both_ways(self, plan, cases=cases, price=price)
            self.assertIs(both_ways(self, is_plan, cases=cases, price=price, thing=thing), True)
            self.assertTrue(self.judge(cases, price, thing))
            self.assertTrue(self.judge(tuple(cases), price, thing[:2] + (tuple(thing[2]),)))
            mosts = [most_at(*case, price) for case in cases]
            fronts = case_fronts(cases)
            self.assertEqual(mosts, [at_price(front, price) for front in fronts])
            best = best_at(fronts, price)
            self.assertEqual(thing[0], best[0])
            for index in best:
                # Each best one has such a triple.
                turned = cases[index:] + cases[:index]
                self.assertEqual(plan(turned, price)[0], 0)
            most = mosts[thing[0]]
            self.assertIs(thing[1] is None, most == "endless")
            if most is None:
                self.assertEqual(thing[2], [None] * len(cases))
            kinds[most if most in (None, "endless") else 0] = kinds.get(most if most in (None, "endless") else 0, 0) + 1
        self.assertGreater(min(kinds.values()), 3)
        self.assertEqual(len(kinds), 3)

    def test_by_hand(self):
        self.assertEqual(plan([FLAT, SIMPLE], (1, 1))[0], 1)
        self.assertEqual(plan([FLAT, SIMPLE], (2, 1))[0], 0)
        self.assertEqual(plan([SIMPLE, SILENT, FLAT], (1, 1))[::2], (1, [None] * 3))
        index, shown, others = plan([ALWAYS, SIMPLE, ALWAYS], (2, 1))
        self.assertEqual((index, shown), (0, None))
        self.assertEqual([pump_gain(*case, item) is not None for case, item in zip([ALWAYS, SIMPLE, ALWAYS], others)], [True] * 3)
        index, shown, others = plan([ALWAYS, FLAT], (1, 1))
        self.assertEqual((index, others[1]), (1, None))
        self.assertIsNotNone(pump_gain(*ALWAYS, others[0]))

    def test_one_thing_otherwise(self):
        judged = {True: 0, False: 0}
        for cases, price in [([FLAT, SIMPLE], (1, 1)), ([SIMPLE, FLAT], (2, 1)), ([ALWAYS, SIMPLE], (2, 1)), ([SILENT, FLAT], (1, 1)), ([SIMPLE], (1, 1)),
                             ([FLAT, FLAT], (1, 0))]:
            thing = plan(cases, price)
            for changed in mutants(thing):
                judged[self.judge(cases, price, changed)] += 1
            for index in range(len(cases)):
                judged[self.judge(cases, price, (index,) + thing[1:])] += 1
        self.assertGreater(min(judged.values()), 15)
        for thing in any_values():
            self.assertIs(is_plan([SIMPLE], (1, 1), thing), False)

    def test_papers_that_show_more(self):
        # The paper may show more than the most, if the others' runs are worth that, too.
        index, shown, others = plan([SIMPLE, FLAT], (1, 1))
        self.assertEqual((index, shown, others[1][-1][0]), (0, ((), {(("f",), 0, 0): 0}), ("f",)))
        for number, right in [(0, True), (1, True), (2, True), (3, False), (-1, False)]:
            self.assertIs(self.judge([SIMPLE, FLAT], (1, 1), (0, ((), {(("f",), 0, 0): number}), others)), right)
        # A paper may show a number also without runs: then the others have to be worth it.
        self.assertIs(self.judge([SILENT, FLAT], (1, 1), (0, ((), {(("f",), 0, 0): 2, (("g",), 0, 0): 2}), others)), True)
        self.assertIs(self.judge([SILENT, FLAT], (1, 1), (0, ((), {(("f",), 0, 0): 3, (("g",), 0, 0): 2}), others)), False)
        self.assertIs(self.judge([SILENT, FLAT], (1, 1), (0, ((), {}), others)), False)


if __name__ == "__main__":
    unittest.main()
