"""[85] place_fronts, dearest_places, with [3], [4] and [5]."""

import unittest

from breaks import pairs_at_place
from drawing import both_ways, caught, program_of_heads, refuses, simple_memory, simple_program, wrong_values
from hitclocks.broken import broken, broken_at, places
from hitclocks.dearplaces import dearest_places, place_fronts
from hitclocks.errors import TooMany
from hitclocks.fronts import at_price, front_of, is_below, joined
from hitclocks.heads import heads
from hitclocks.memories import Memory, read
from hitclocks.programs import Program
from hitclocks.swamped import swamped
from hitclocks.wholes import whole
from test_at_a_price import drawn_cases, memory_of

A = ("read", "a")
B = ("read", "b")


class Places(unittest.TestCase):
    def test_by_hand(self):
        memory = Memory(("a", "b"), (((1, 5, 0), (0, 0, 1)), ((1, 1, 0), (0, 0, 4))))
        program, intruder = Program({"f": ("then", (A, A))}, "f"), Program({"g": B}, "g")
        case = {"memory": memory, "program": program, "intruder": intruder, "start": 0, "goals": (0, 1)}
        # a a b comes to (6, 4), a b a to (10, 4), b a a to (6, 1).
        told = both_ways(self, place_fronts, **case)
        self.assertEqual(told, [((), front_of([(6, 4)])), (("f", (0,)), front_of([(6, 1)])), (("f", (1,)), front_of([(10, 4)]))])
        for price, right in [((1, 0), [("f", (1,))]), ((1, 1), [("f", (1,))]), ((0, 1), [(), ("f", (1,))])]:
            self.assertEqual(both_ways(self, dearest_places, **case, price=price), right)
        self.assertEqual(dearest_places(memory, program, intruder, 0, (0,), (1, 0)), [()])
        self.assertEqual(place_fronts(memory, program, intruder, 0, (0,))[1:], [(("f", (0,)), None), (("f", (1,)), None)])
        told.clear()
        self.assertEqual(len(place_fronts(*case.values())), 3)

    def test_endless_places(self):
        looped = Program({"f": ("either", (B, ("then", (A, ("any", A)))))}, "f")
        case = (simple_memory(), looped, Program({"g": ("any", B)}, "g"), 0, (0,))
        fronts = place_fronts(*case)
        self.assertEqual([place for place, _ in fronts], [(), ("f", (0,)), ("f", (1, 0)), ("f", (1, 1, 0))])
        self.assertEqual(fronts[1][1], front_of([(0, -3)]))
        self.assertEqual(dearest_places(*case, (1, 0)), [(), ("f", (1, 0)), ("f", (1, 1, 0))])
        self.assertEqual(dearest_places(*case, (0, 1)), [(), ("f", (1, 0)), ("f", (1, 1, 0))])
        silent = Program({"f": ("call", "f")}, "f")
        self.assertEqual(place_fronts(simple_memory(), silent, looped, 0, (0,)), [])
        self.assertEqual(dearest_places(simple_memory(), silent, looped, 0, (0,), (1, 1)), [])
        self.assertEqual(dearest_places(simple_memory(), looped, silent, 0, (0,), (1, 1)), [])

    def test_drawn(self):
        kinds = {}
        for drawing, memory, program, start, goals in drawn_cases(191, 60, 2, 2):
            intruder = drawing.program(1, 1, ("a", "b"))
            if (3 * len(heads(program)) + len(heads(intruder)) + 1) * len(memory) ** 2 > 300:
                continue
            case = {"memory": memory, "program": program, "intruder": intruder, "start": start, "goals": goals}
            told = both_ways(self, place_fronts, **case)
            self.assertEqual([place for place, _ in told], places(program))
            front = None
            for place, one in told:
                self.assertEqual(one, whole(memory, broken_at(program, intruder, place), start, goals))
                words = [word for _, word in pairs_at_place(program, intruder, place, 4)]
                runs = [read(memory, start, word) for word in words]
                self.assertIs(is_below(front_of([pair for end, pair in runs if end in goals]), one), True)
                front = joined(front, one)
                kinds[one and one[0]] = True
            self.assertEqual(front, whole(memory, broken(program, intruder, 1), start, goals))
            price = drawing.price()
            worths = {place: at_price(one, price) for place, one in told if one is not None}
            numbers = [float("inf") if worth == "endless" else worth for worth in worths.values()]
            right = [place for place, number in zip(worths, numbers) if number == max(numbers)]
            self.assertEqual(both_ways(self, dearest_places, **case, price=price), right)
            for count in range(3):
                self.assertIs(is_below(whole(memory, broken(program, intruder, count), start, goals),
                                       whole(memory, swamped(program, intruder), start, goals)), True)
        self.assertLessEqual({None, "endless", "over"}, set(kinds))

    def test_too_many(self):
        good = Program({"f": A}, "f")
        for h, i, states, most in [(31, 1, 1, None), (31, 2, 1, 64), (1, 62, 1, 64), (31, 1, 4, None), (31, 1, 5, 2000), (1, 1, 20, None),
                                   (1, 1, 21, 2000), (2, 1, 16, 2000), (31, 2, 5, 64), (3, 10, 10, None), (3, 11, 10, 2000)]:
            for function, more in [(place_fronts, ()), (dearest_places, ((1, 1),))]:
                case = (memory_of(states), program_of_heads(h), program_of_heads(i), 0, (0,), *more)
                if most is None:
                    function(*case)
                else:
                    caught(self, TooMany, {"most": most}, function, *case)
        silent = Program({"f": ("call", "f")}, "f")
        caught(self, TooMany, {"most": 2000}, place_fronts, memory_of(21), silent, good, 0, (0,))

    def test_wrong_values(self):
        wrong = wrong_values(("memory", "memory"), ("program", "letters"), ("intruder", "letters"), ("start", "state"), ("goals", "goals"),
                             ("price", "price"))
        case = {"memory": simple_memory(), "program": simple_program(), "intruder": simple_program(), "start": 0, "goals": (0,)}
        refuses(self, place_fronts, case, wrong)
        refuses(self, dearest_places, {**case, "price": (1, 1)}, wrong)


if __name__ == "__main__":
    unittest.main()
