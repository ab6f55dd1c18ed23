"""[62] orders, with [3] and [5]. What costs tells is asked for in test_equations."""

import unittest

from drawing import both_ways, caught, numbers_beyond, refuses, simple_memory, simple_program, some_prices
from drawing import wrong_values
from hitclocks.dearest import dearest
from hitclocks.equations import is_table, lettering_of
from hitclocks.errors import BadTale, TooMany
from hitclocks.fronts import at_price, front_of, is_below
from hitclocks.heads import heads
from hitclocks.matrices import unit_matrix
from hitclocks.memories import Memory
from hitclocks.orders import by_order, costs, order_of, orders_told, whole_by_orders
from hitclocks.programs import Program
from hitclocks.wholes import whole
from reference import ordered_worths
from test_at_a_price import drawn_cases
from test_equations import drawn_equations, told_at, wrong_letterings

A = ("read", "a")
B = ("read", "b")
X = ("x",)
DOUBLE = Program({"x": ("either", (A, ("then", (("call", "x"), ("call", "x")))))}, "x")


def memory_of_pair(pair):
    return Memory(("a",), (((0,) + pair,),))


def order_by_words(tale):
    """The orders of the entries, by the numbers that stand in their plays, wherever these are."""
    orders = []

    def named(play):
        if play[0] in ("any", "call"):
            return [play[1]]
        if play[0] == "more":
            return named(play[1]) + [play[2]]
        if play[0] == "either":
            return named(play[2])
        return [number for part in play[1] for number in named(part)] if play[0] in ("then", "times") else []

    for entry in tale:
        found = sorted(orders[number] for number in named(entry[2]))
        orders.append(1 if not found else found[-1] + (found[-1:] == found[-2:-1]))
    return orders


class Told(unittest.TestCase):
    def test_by_hand(self):
        memory = memory_of_pair((1, -1))
        one = (X, 0, ("either", 0, ("read",)))

        def both(first, second):
            return (X, 0, ("either", 1, ("then", (("call", first), ("call", second)))))

        tale = (one, both(0, 0), both(1, 0), both(2, 1), both(3, 2), both(1, 4), both(4, 4))
        self.assertEqual(both_ways(self, orders_told, memory=memory, program=DOUBLE, tale=tale), [1, 2, 2, 3, 3, 3, 4])
        program = Program({"f": ("then", (("any", A), ("times", 0, 3, ("call", "g")))), "g": ("any", ("call", "f"))}, "f")
        f, g, loop, ring = ("f",), ("g",), ("f", (0,)), ("g", ())
        tale = ((loop, 0, ("end",)), (loop, 0, ("more", ("read",), 0)), (f, 0, ("then", (("any", 1), ("times", ())))),
                (ring, 0, ("end",)), (ring, 0, ("more", ("call", 2), 3)), (g, 0, ("any", 4)),
                (f, 0, ("then", (("any", 0), ("times", (("call", 5),))))), (f, 0, ("then", (("any", 0), ("times", (("call", 5),) * 2)))),
                (ring, 0, ("more", ("call", 6), 4)))
        self.assertEqual(orders_told(memory, program, tale), [1, 1, 1, 1, 2, 2, 2, 3, 3])
        self.assertEqual(orders_told(memory, program, tale), order_by_words(tale))

    def test_drawn_tales(self):
        many = 0
        for drawing, memory, program, start, goals in drawn_cases(101, 200, 3, 3):
            for tale in (dearest(memory, program, start, goals, drawing.price()), drawing.tale(memory, program, 40)):
                if tale:
                    kept = repr(tale)
                    self.assertEqual(orders_told(memory, program, tale), order_by_words(tale))
                    self.assertEqual(repr(tale), kept)
                    many += max(orders_told(memory, program, tale)) > 1
        self.assertGreater(many, 20)

    def test_wrong_values(self):
        tale = ((("f",), 0, ("either", 1, ("none",))),)
        wrong = {**wrong_values(("memory", "memory"), ("program", "letters")),
                 "tale": [(thing, BadTale, {"at": None}) for thing in ((), None, [], list(tale), 1, "f", {})] + [
                     (tale + ((("f",), 0, ("either", 1, ("read",))),), BadTale, {"at": 1}), ((None,), BadTale, {"at": 0})]}
        refuses(self, orders_told, {"memory": simple_memory(), "program": simple_program(), "tale": tale}, wrong)


class ByOrder(unittest.TestCase):
    def test_by_hand(self):
        lettering = lettering_of(memory_of_pair((1, -1)))
        self.assertEqual(both_ways(self, by_order, lettering=lettering, program=DOUBLE, number=0), {X: ((None,),)})
        self.assertEqual(by_order(lettering, DOUBLE, 1), {X: ((front_of([(1, -1)]),),)})
        for number in (2, 3, 4, 160):
            self.assertEqual(by_order(lettering, DOUBLE, number), {X: ((("over", (1, 1), (0, 1), ((1, -1),)),),)})
        self.assertEqual(both_ways(self, order_of, lettering=lettering, program=DOUBLE), 2)
        self.assertEqual(order_of(lettering_of(simple_memory()), simple_program()), 1)
        self.assertEqual(order_of({"a": ((None,),)}, Program({"f": ("call", "f")}, "f")), 0)
        told = by_order(lettering, DOUBLE, 3)
        told.clear()
        self.assertEqual(len(by_order(lettering, DOUBLE, 3)), 1)

    def test_many_orders(self):
        """Each procedure calls the next one twice: the k-th from the end has runs of order k alone."""
        names = ["p" + str(number) for number in range(8)]
        procedures = {name: ("then", (("call", after), ("call", after))) for name, after in zip(names, names[1:])}
        procedures["p7"] = A
        program = Program(procedures, "p0")
        lettering = lettering_of(memory_of_pair((1, 2)))
        for number in range(10):
            told = by_order(lettering, program, number)
            for at, name in enumerate(names):
                right = front_of([(2 ** (7 - at), 2 * 2 ** (7 - at))]) if 8 - at <= number else None
                self.assertEqual(told[(name,)], ((right,),))
        self.assertEqual(order_of(lettering, program), 8)

    def test_against_the_orders_of_runs(self):
        more = 0
        for drawing, memory, program, start, goals in drawn_cases(102, 50, 2, 2):
            if len(heads(program)) * len(memory) ** 2 > 30:
                continue
            lettering = lettering_of(memory)
            told = {number: both_ways(self, by_order, lettering=lettering, program=program, number=number) for number in range(4)}
            for number in told:
                self.assertIs(is_table(lettering, program, told[number]), True)
                self.assertEqual(list(told[number]), heads(program))
            for price in [drawing.pick(some_prices()), (1, 1)]:
                exact = ordered_worths(memory, program, price, 3)
                for head in heads(program):
                    best = {}
                    for number in range(4):
                        for place, value in exact[head, number].items() if number else ():
                            best[place] = max(best.get(place, value), value)
                        self.assertEqual(told_at(told[number][head], price), best)
            more += told[1] != told[2]
        self.assertGreater(more, 5)

    def test_orders_come_to_costs(self):
        orders = {}
        for drawing, lettering, program, size in drawn_equations(103, 60):
            order = both_ways(self, order_of, lettering=lettering, program=program)
            self.assertLessEqual(order, 1 + len(heads(program)) * size * size)
            full = costs(lettering, program)
            for number in range(max(0, order - 1), order + 3):
                self.assertIs(by_order(lettering, program, number) == full, number >= order)
            self.assertEqual(by_order(lettering, program, 160), full)
            for number in range(order):
                one, other = by_order(lettering, program, number), by_order(lettering, program, number + 1)
                self.assertTrue(all(is_below(front, more) for head in one for row, rows in zip(one[head], other[head])
                                    for front, more in zip(row, rows)))
            orders[order] = orders.get(order, 0) + 1
        self.assertGreater(len(orders), 2)

    def test_wrong_values(self):
        good = {"lettering": lettering_of(simple_memory()), "program": simple_program()}
        wrong = {"lettering": wrong_letterings(), **wrong_values(("program", "letters")), "number": numbers_beyond(0, 160)}
        refuses(self, order_of, good, wrong)
        refuses(self, by_order, {**good, "number": 2}, wrong)
        program = Program({"p" + str(number): A for number in range(38)}, "p0")
        lettering = {"a": unit_matrix(2)}
        for function, more in [(by_order, (0,)), (by_order, (160,)), (order_of, ()), (costs, ())]:
            caught(self, TooMany, {"most": 150}, function, lettering, program, *more)
        smaller = Program({"p" + str(number): A for number in range(37)}, "p0")
        self.assertEqual(order_of(lettering, smaller), 1)


class WholeByOrders(unittest.TestCase):
    def test_against_whole(self):
        kinds = {}
        for drawing, memory, program, start, goals in drawn_cases(104, 250, 3, 3):
            if len(heads(program)) * len(memory) ** 2 <= 80:
                case = {"memory": memory, "program": program, "start": start, "goals": goals}
                front = both_ways(self, whole_by_orders, **case)
                self.assertEqual(front, whole(memory, program, start, goals))
                kinds[front and front[0]] = kinds.get(front and front[0], 0) + 1
        self.assertEqual(set(kinds), {None, "endless", "at", "over"})

    def test_by_hand(self):
        front = whole_by_orders(simple_memory(), simple_program(), 0, (0,))
        self.assertEqual(front, ("over", (3, 2), (0, 1), ((0, 0),)))
        self.assertEqual(at_price(front, (1, 1)), 0)

    def test_wrong_values(self):
        wrong = wrong_values(("memory", "memory"), ("program", "letters"), ("start", "state"), ("goals", "goals"))
        refuses(self, whole_by_orders, {"memory": simple_memory(), "program": simple_program(), "start": 0, "goals": (0,)}, wrong)
        ring = Memory(("a",), tuple((((state + 1) % 13, 1, -1),) for state in range(13)))
        caught(self, TooMany, {"most": 150}, whole_by_orders, ring, Program({"f": A}, "f"), 0, (0,))
        small = Memory(("a",), tuple((((state + 1) % 12, 1, -1),) for state in range(12)))
        self.assertEqual(whole_by_orders(small, Program({"f": ("times", 3, 3, A)}, "f"), 0, (3, 4)), front_of([(3, -3)]))


if __name__ == "__main__":
    unittest.main()
