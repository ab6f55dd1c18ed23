"""[61] letterings, tables, unfolded, heights and costs, with [3] and [5]."""

import unittest

from drawing import Drawing, any_values, both_ways, caught, numbers_beyond, refuses, simple_memory, simple_program
from drawing import some_prices, wrong_values
from hitclocks.equations import heights, is_lettering, is_table, lettering_of, unfolded
from hitclocks.errors import BadLettering, BadTable, TooMany
from hitclocks.fronts import at_price, front_of, joined, summed
from hitclocks.heads import heads
from hitclocks.matrices import matrix_star, transposed, unit_matrix
from hitclocks.memories import Memory
from hitclocks.orders import costs
from hitclocks.programs import Program, turned_about
from hitclocks.wholes import whole
from reference import INFINITE, heads_of, lettered_costs, lettered_productions, mutants
from test_at_a_price import drawn_cases
from test_matrices import KINDS, drawn_matrix, finite_matrix, is_below_each, is_matrix_by_words

A = ("read", "a")
B = ("read", "b")
ZERO = front_of([(0, 0)])
ENDLESS = ("endless",)


def is_lettering_by_words(thing):
    if type(thing) is not dict or not 1 <= len(thing) <= 72:
        return False
    signs = "ABCDEFGHIJKLMNOPQRSTUVWXYZabcdefghijklmnopqrstuvwxyz0123456789."
    for letter in thing:
        if type(letter) is not str or not 1 <= len(letter) <= 12 or any(sign not in signs for sign in letter):
            return False
    return all(map(is_matrix_by_words, thing.values())) and len({len(matrix) for matrix in thing.values()}) == 1


def is_table_by_words(lettering, program, thing):
    if type(thing) is not dict or len(thing) != len(heads_of(program)):
        return False
    if sorted(map(repr, thing)) != sorted(map(repr, heads_of(program))):
        return False
    rows = len(next(iter(lettering.values())))
    return all(is_matrix_by_words(matrix) and len(matrix) == rows for matrix in thing.values())


def wrong_letterings():
    wrong = [thing for thing in any_values() if not is_lettering_by_words(thing)]
    wrong += [{"a": unit_matrix(1), "b": unit_matrix(2)}, {"a": unit_matrix(1), "": unit_matrix(1)}, {"a": ()}, {True: unit_matrix(1)},
              {("a",): unit_matrix(1)}, {"a": [(None,)]}, {"a_": unit_matrix(1)}, [("a", unit_matrix(1))], {"a": ((False,),)}]
    return [(thing, BadLettering, {}) for thing in wrong]


def drawn_equations(seed, many, rows=3):
    drawing = Drawing(seed)
    for _ in range(many):
        size = 1 + drawing.below(rows)
        make = (drawn_matrix, finite_matrix)[drawing.below(2)]
        lettering = {letter: make(drawing, size) for letter in ("a", "b")}
        program = drawing.program(1 + drawing.below(2), 2, ("a", "b"))
        if drawing.below(4) == 0:
            inner = [("any", drawing.body(1, ("a", "b"), ("f",))) for _ in range(2)]
            program = Program({"f": ("then", (("any", ("then", tuple(inner))), ("times", 0, 2, ("any", ("any", A)))))}, "f")
        if len(heads(program)) * size * size <= 60:
            yield drawing, lettering, program, size


def told_at(matrix, price):
    """The dict from places to the numbers at a price, as the reference tells them."""
    found = {}
    for s, row in enumerate(matrix):
        for t, front in enumerate(row):
            number = at_price(front, price)
            if number is not None:
                found[(s, t)] = INFINITE if number == "endless" else number
    return found


class Letterings(unittest.TestCase):
    def test_lettering_of(self):
        memory = Memory(("a", "b"), (((1, 2, -3), (0, 0, 0)), ((1, 0, 1), (0, -1, -1))))
        told = both_ways(self, lettering_of, memory=memory)
        self.assertEqual(told, {"a": ((None, front_of([(2, -3)])), (None, front_of([(0, 1)]))),
                                "b": ((ZERO, None), (front_of([(-1, -1)]), None))})
        self.assertEqual(list(told), ["a", "b"])
        self.assertIs(is_lettering(told), True)
        told.clear()
        self.assertEqual(len(lettering_of(memory)), 2)
        refuses(self, lettering_of, {"memory": memory}, wrong_values(("memory", "memory")))

    def test_one_thing_otherwise(self):
        judged = {True: 0, False: 0}
        lettering = {"a": ((KINDS[6], None), (ENDLESS, KINDS[2])), "b.9Z": unit_matrix(2)}
        kept = repr(lettering)
        self.assertIs(both_ways(self, is_lettering, thing=lettering), True)
        for thing in mutants(lettering):
            right = is_lettering_by_words(thing)
            self.assertIs(is_lettering(thing), right, thing)
            judged[right] += 1
        self.assertEqual(repr(lettering), kept)
        self.assertGreater(min(judged.values()), 20)
        for thing in any_values():
            self.assertIs(is_lettering(thing), is_lettering_by_words(thing))
            self.assertIs(is_lettering({"a": thing}), is_lettering_by_words({"a": thing}))

    def test_72_letters_and_73(self):
        letters = ["x" + str(number) for number in range(73)]
        self.assertIs(is_lettering({letter: unit_matrix(1) for letter in letters[:72]}), True)
        self.assertIs(is_lettering({letter: unit_matrix(1) for letter in letters}), False)
        self.assertIs(is_lettering({}), False)
        self.assertIs(is_lettering({"x" * 12: unit_matrix(120)}), True)
        self.assertIs(is_lettering({"x" * 13: unit_matrix(1)}), False)


class Tables(unittest.TestCase):
    def test_one_thing_otherwise(self):
        judged = {True: 0, False: 0}
        lettering = {"a": ((ZERO, None), (ENDLESS, None)), "c": unit_matrix(2)}
        program = Program({"f": ("either", (A, ("any", ("call", "g")))), "g": ("any", A)}, "f")
        table = costs(lettering, program)
        kept = repr(table)
        self.assertIs(both_ways(self, is_table, lettering=lettering, program=program, thing=table), True)
        for thing in mutants(table):
            right = is_table_by_words(lettering, program, thing)
            self.assertIs(is_table(lettering, program, thing), right, thing)
            if not right:
                caught(self, BadTable, {}, unfolded, lettering, program, thing)
            judged[right] += 1
        self.assertEqual(repr(table), kept)
        self.assertGreater(min(judged.values()), 20)
        for thing in any_values():
            self.assertIs(is_table(lettering, program, thing), False)
        # The keys ("f", (True,)) and ("f", (1,)) are equal, but only one of them is a head.
        wrong = {(head if head != ("f", (1,)) else ("f", (True,))): matrix for head, matrix in table.items()}
        self.assertEqual(wrong, table)
        self.assertIs(is_table(lettering, program, wrong), False)
        self.assertIs(is_table(lettering, program, dict(reversed(list(table.items())))), True)

    def test_unfolded_by_hand(self):
        a, b = front_of([(1, 0)]), front_of([(0, 1)])
        lettering = {"a": ((a, b), (None, None)), "b": ((None, ZERO), (ZERO, None))}
        x, y = ((None, a), (b, ENDLESS)), ((b, None), (None, ("at", (1, 1), 3)))
        unit, none = unit_matrix(2), ((None, None), (None, None))
        loop = ("f", ())
        for body, right in [(("none",), unit), (A, lettering["a"]), (("then", ()), unit), (("either", ()), none),
                            (("call", "f"), x), (("call", "g"), y), (("then", (B, B)), unit), (("then", (B, A)), ((None, None), (a, b))),
                            (("either", (A, B)), ((a, joined(b, ZERO)), (ZERO, None))), (("times", 0, 0, A), unit),
                            (("times", 1, 1, B), lettering["b"]), (("times", 2, 2, A), ((summed(a, a), summed(a, b)), (None, None))),
                            (("times", 0, 1, B), ((ZERO, ZERO), (ZERO, ZERO))), (("times", 1, 2, B), ((ZERO, ZERO), (ZERO, ZERO))),
                            (("times", 3, 3, B), lettering["b"]), (("times", 0, 2, ("either", ())), unit),
                            (("times", 1, 2, ("either", ())), none)]:
            program = Program({"f": body, "g": ("none",)}, "f")
            told = both_ways(self, unfolded, lettering=lettering, program=program, table={("f",): x, ("g",): y})
            self.assertEqual(told, {("f",): right, ("g",): unit}, body)
        program = Program({"f": ("any", A)}, "f")
        told = unfolded(lettering, program, {("f",): y, loop: x})
        self.assertEqual(told, {("f",): x, loop: ((front_of([(0, 2)]), ENDLESS), (None, ZERO))})
        self.assertEqual(list(told), [("f",), loop])

    def test_unfolded_against_the_reference(self):
        for drawing, lettering, program, size in drawn_equations(91, 60):
            table = {head: drawn_matrix(drawing, size) for head in heads(program)}
            kept = repr((lettering, table))
            told = unfolded(lettering, program, table)
            self.assertIs(is_table(lettering, program, told), True)
            self.assertEqual(list(told), heads(program))
            self.assertEqual(repr((lettering, table)), kept)
            for price in some_prices()[::7]:
                numbers = {head: told_at(matrix, price) for head, matrix in table.items()}
                right = lettered_productions(lettering, program, price, numbers)
                for head in told:
                    self.assertEqual(told_at(told[head], price), right[head])

    def test_heights(self):
        for drawing, lettering, program, size in drawn_equations(92, 25, 2):
            table = {head: ((None,) * size,) * size for head in heads(program)}
            for number in range(6):
                self.assertEqual(both_ways(self, heights, lettering=lettering, program=program, number=number), table)
                table = unfolded(lettering, program, table)
            self.assertTrue(all(is_below_each(table[head], costs(lettering, program)[head]) for head in table))
        lettering = lettering_of(simple_memory())
        told = heights(lettering, simple_program(), 60)
        self.assertEqual(told, {("f",): ((front_of([(0, 0), (118, -177)]),),)})
        self.assertEqual(heights(lettering, simple_program(), 0), {("f",): ((None,),)})
        told.clear()
        self.assertEqual(len(heights(lettering, simple_program(), 60)), 1)
        double = Program({"x": ("either", (A, ("then", (("call", "x"), ("call", "x")))))}, "x")
        self.assertEqual(heights(lettering, double, 60), {("x",): ((front_of([(2 ** 60, 0)]),),)})


class Costs(unittest.TestCase):
    def test_against_the_reference(self):
        kinds = {}
        for drawing, lettering, program, size in drawn_equations(93, 90, 2):
            told = both_ways(self, costs, lettering=lettering, program=program)
            self.assertIs(is_table(lettering, program, told), True)
            self.assertEqual(list(told), heads(program))
            for price in some_prices()[::9]:
                right = lettered_costs(lettering, program, price)
                for head, matrix in told.items():
                    self.assertEqual(told_at(matrix, price), right[head], (lettering, program.procedures))
            for matrix in told.values():
                for row in matrix:
                    for front in row:
                        kinds[front and front[0]] = kinds.get(front and front[0], 0) + 1
        self.assertEqual(set(kinds), {None, "endless", "at", "over"})

    def test_least_that_does_not_fall_short(self):
        below = 0
        for drawing, lettering, program, size in drawn_equations(94, 60):
            told = costs(lettering, program)
            self.assertEqual(unfolded(lettering, program, told), told)
            other = {head: drawn_matrix(drawing, size, 3) for head in told}
            for _ in range(3):
                once = unfolded(lettering, program, other)
                if all(is_below_each(once[head], other[head]) for head in told):
                    self.assertTrue(all(is_below_each(told[head], other[head]) for head in told))
                    below += 1
                other = {head: tuple(tuple(joined(front, more) for front, more in zip(row, rows))
                                     for row, rows in zip(other[head], once[head])) for head in told}
            everything = {head: ((ENDLESS,) * size,) * size for head in told}
            self.assertTrue(all(is_below_each(told[head], everything[head]) for head in told))
        self.assertGreater(below, 20)

    def test_against_whole(self):
        for drawing, memory, program, start, goals in drawn_cases(95, 80, 2, 2):
            if len(heads(program)) * len(memory) ** 2 > 150:
                continue
            told = costs(lettering_of(memory), program)
            for name in program.procedures:
                begun = Program(program.procedures, name)
                for s in range(len(memory)):
                    for t in range(len(memory)):
                        self.assertEqual(told[(name,)][s][t], whole(memory, begun, s, (t,)))

    def test_loops_are_stars(self):
        for drawing, lettering, program, size in drawn_equations(96, 60):
            looped = Program({**program.procedures, "z": ("any", ("call", program.first))}, "z")
            if len(heads(looped)) * size * size <= 150:
                told = costs(lettering, looped)
                self.assertEqual(told[("z",)], matrix_star(told[(program.first,)]))
                self.assertEqual(told[("z", ())], told[("z",)])

    def test_turned_about(self):
        for drawing, lettering, program, size in drawn_equations(97, 40):
            turned = {letter: transposed(matrix) for letter, matrix in lettering.items()}
            told, other = costs(lettering, program), costs(turned, turned_about(program))
            for name in program.procedures:
                self.assertEqual(other[(name,)], transposed(told[(name,)]))

    def test_edges(self):
        lettering = lettering_of(simple_memory())
        for body, right in [(("call", "f"), None), (("any", ("none",)), ZERO), (("any", ("call", "f")), ZERO), (("either", ()), None),
                            (("any", ("either", (("none",), B))), ZERO), (("times", 0, 0, ("call", "f")), ZERO),
                            (("then", (A, ("call", "f"))), None), (("any", A), ("at", (0, 1), 0)),
                            (("any", ("either", (A, B))), ("at", (0, 1), 0)),
                            (("either", (("then", (("call", "f"), ("call", "f"))), ("none",))), ZERO)]:
            self.assertEqual(costs(lettering, Program({"f": body}, "f"))[("f",)], ((right,),), body)
        endless = {"a": ((ENDLESS,),), "b": ((None,),)}
        self.assertEqual(costs(endless, Program({"f": ("then", (A, B))}, "f")), {("f",): ((None,),)})
        self.assertEqual(costs(endless, Program({"f": ("then", (A, ("any", B)))}, "f"))[("f",)], ((ENDLESS,),))
        single = {"a": ((("at", (1, 1), -1),),)}
        self.assertEqual(costs(single, Program({"f": ("any", A)}, "f"))[("f",)], ((("at", (1, 1), 0),),))

    def test_fewer_letters_than_the_lettering_has(self):
        lettering = {"b": ((None,),), "a": ((front_of([(1, 0)]),),), "Z": ((ENDLESS,),)}
        self.assertEqual(costs(lettering, Program({"f": A}, "f")), {("f",): ((front_of([(1, 0)]),),)})


class Refusing(unittest.TestCase):
    def test_wrong_values(self):
        lettering, program = lettering_of(simple_memory()), simple_program()
        wrong = {"lettering": wrong_letterings(), **wrong_values(("program", "letters")), "number": numbers_beyond(0, 60),
                 "table": [(thing, BadTable, {}) for thing in any_values()]}
        good = {"lettering": lettering, "program": program}
        refuses(self, costs, good, wrong)
        refuses(self, heights, {**good, "number": 3}, wrong)
        refuses(self, unfolded, {**good, "table": costs(lettering, program)}, wrong)
        for thing, error, attributes in wrong["lettering"]:
            caught(self, error, attributes, is_table, thing, None, None)
        for thing, error, attributes in wrong["program"]:
            caught(self, error, attributes, is_table, lettering, thing, None)

    def test_150_and_more(self):
        """Heads times rows times rows."""
        for procedures, rows, right in [(6, 5, True), (38, 2, False), (37, 2, True), (64, 1, True), (1, 12, True), (1, 13, False),
                                        (2, 9, False), (16, 3, True), (17, 3, False)]:
            bodies = {"p" + str(number): A for number in range(procedures)}
            program = Program(bodies, "p0")
            lettering = {"a": unit_matrix(rows)}
            table = {head: unit_matrix(rows) for head in heads(program)}
            if right:
                self.assertEqual(costs(lettering, program), table)
                self.assertEqual(heights(lettering, program, 1), table)
                self.assertEqual(unfolded(lettering, program, table), table)
                self.assertIs(is_table(lettering, program, table), True)
            else:
                for function, more in [(costs, ()), (heights, (1,)), (unfolded, (table,)), (is_table, (table,)), (is_table, (None,))]:
                    caught(self, TooMany, {"most": 150}, function, lettering, program, *more)
                caught(self, BadTable, {}, unfolded, lettering, program, {})
        loops = {"p" + str(number): ("then", (("any", A), ("any", A))) for number in range(50)}
        self.assertEqual(len(costs({"a": unit_matrix(1)}, Program(loops, "p0"))), 150)
        loops["p0"] = ("then", (("any", A),) * 3)
        caught(self, TooMany, {"most": 150}, costs, {"a": unit_matrix(1)}, Program(loops, "p0"))


if __name__ == "__main__":
    unittest.main()
