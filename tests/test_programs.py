"""[30] programs, [31] heads, with [3], [4] and [5]."""

import unittest

from drawing import ROUND_PROGRAM, Drawing, any_values, both_ways, caught, simple_program
from hitclocks.errors import BadNumber, BadProgram, TooMany
from hitclocks.heads import heads
from hitclocks.programs import Program, in_rings, is_word_of, letters_of, made_program, never, turned_about, words_of
from reference import heads_of, words_up_to

NONE = ("none",)
A = ("read", "a")
B = ("read", "b")
LOAD_9 = ("then", (NONE,) * 8)
WRONG_BODIES = [
    None, True, 0, "none", (), ("none", 1), ["none"], ("nothing",), ("read",), ("read", ""), ("read", "a_"), ("read", 1),
    ("read", "a" * 13), ("read", ("a",)), ("read", "a", "b"), ("then",), ("then", A), ("then", [A]), ("then", (A,) * 9),
    ("then", (A, None)), ("either", [A, B]), ("either", (A,) * 9), ("either", (A, ("none", 0))), ("either", A, B),
    ("times", 0, 1), ("times", -1, 1, A), ("times", 2, 1, A), ("times", 0, 10, A), ("times", True, 1, A),
    ("times", 0, True, A), ("times", False, False, A), ("times", None, 1, A), ("times", 0, "1", A), ("times", 0, 1, ["none"]),
    ("times", 0, 0, None), ("any",), ("any", None), ("any", [A]), ("any", A, A), ("call",), ("call", "h"), ("call", 1),
    ("call", ["f"]), ("call", "f", "f"), ("call", ""), ("call", None), (None,), (("none",),), {"none": 1}]


def nested(levels, body):
    for _ in range(levels):
        body = ("then", (body,))
    return body


def of_load(load):
    """A body with this load."""
    parts = []
    load -= 1
    while load > 57 and len(parts) < 7:
        parts.append(("times", 7, 7, ("then", (A,) * 7)))
        load -= 57
    return ("then", tuple(parts) + ((of_load(load),) if load else ()))


class Making(unittest.TestCase):
    def test_attributes(self):
        procedures = {"g": A, "f": ("call", "g")}
        program = both_ways(self, Program, procedures=procedures, first="f")
        self.assertEqual((program.procedures, program.first), ({"f": ("call", "g"), "g": A}, "f"))
        self.assertEqual(list(program.procedures), ["f", "g"])
        self.assertIsNot(program.procedures, procedures)
        procedures["f"] = NONE
        procedures["h"] = NONE
        self.assertEqual(program.procedures, {"f": ("call", "g"), "g": A})

    def test_a_new_dict_each_time(self):
        first = Program({"g": A, "f": ("then", (A, B))}, "f")
        for program in (first, turned_about(first), turned_about(turned_about(first))):
            kept = list(program.procedures.items())
            for _ in range(2):
                told = program.procedures
                self.assertIsNot(told, program.procedures)
                self.assertEqual(list(told.items()), kept)
                told["f"] = B
                told["late"] = NONE
                del told["g"]
            self.assertEqual(list(program.procedures.items()), kept)
            self.assertEqual(program, Program(dict(kept), "f"))
            self.assertEqual(letters_of(program), ("a", "b"))
            self.assertEqual(heads(program), [("f",), ("g",)])
        self.assertEqual(first, turned_about(turned_about(first)))
        self.assertNotEqual(first, turned_about(first))

    def test_equal(self):
        self.assertEqual(Program({"f": A, "g": B}, "f"), Program({"g": B, "f": A}, "f"))
        self.assertNotEqual(Program({"f": A, "g": B}, "f"), Program({"f": A, "g": B}, "g"))
        self.assertNotEqual(Program({"f": A}, "f"), Program({"f": B}, "f"))
        different = [NONE, A, B, ("then", ()), ("either", ()), ("then", (A,)), ("then", (A, A)), ("then", (A, B)), ("either", (A, B)),
                     ("times", 0, 2, A), ("times", 1, 2, A), ("times", 0, 1, A), ("times", 0, 2, B), ("any", A), ("any", B),
                     ("call", "f"), ("call", "g"), ("any", ("call", "f")), ("any", ("any", A)), ("then", (("any", A),))]
        for one in different:
            for other in different:
                self.assertIs(Program({"f": one, "g": A}, "f") == Program({"f": other, "g": A}, "f"), one is other)
        for other in [{"f": A}, {"f": A, "g": B, "h": A}, {"f": A, "h": B}, {"e": A, "f": A, "g": B}]:
            self.assertFalse(Program({"f": A, "g": B}, "f") == Program(other, "f"))
            self.assertFalse(Program(other, "f") == Program({"f": A, "g": B}, "f"))
        for thing in any_values():
            if not isinstance(thing, Program):
                self.assertFalse(simple_program() == thing)

    def test_bodies_of_very_many_levels(self):
        """As functions of the package may make them; those that callers write are not so deep."""
        for above in (lambda body: ("then", (body,)), lambda body: ("either", (body,)), lambda body: ("times", 1, 1, body),
                      lambda body: ("any", body)):
            bodies = [A, A, B]
            for _ in range(1500):
                bodies = [above(body) for body in bodies]
            one, other, third = [made_program({"f": body}, "f") for body in bodies]
            self.assertTrue(one == other)
            self.assertFalse(one == third)
            self.assertTrue(turned_about(one) == one)
            self.assertEqual(letters_of(third), ("b",))
            self.assertEqual((never(one), in_rings(one)), ((), ()))
            self.assertIs(is_word_of(one, ("a",)), True)
            self.assertEqual(words_of(one, 1)[-1], ("a",))
            self.assertEqual(len(heads(one)), 1501 if bodies[0][0] == "any" else 1)

    def test_no_such_dict(self):
        wrong_dicts = [None, [], (), [("f", A)], {}, {"F": A}, {"": A}, {"1": A}, {".a": A}, {"f" * 13: A}, {"a_": A}, {0: A},
                       {None: A}, {("f",): A}, {"f": None, 0: A}, {"f\u00e4": A}, {True: A}, "f", 3]
        for wrong in wrong_dicts:
            caught(self, BadProgram, {"part": None}, Program, wrong, "f")

    def test_names(self):
        for name in ["f", "f" * 12, "a.1", "z09...zz9"]:
            self.assertEqual(Program({name: ("call", name)}, name).first, name)

    def test_64_procedures_and_65(self):
        procedures = {"p" + str(number): ("call", "p" + str((number + 1) % 64)) for number in range(64)}
        self.assertEqual(len(Program(procedures, "p0").procedures), 64)
        procedures["q"] = NONE
        caught(self, BadProgram, {"part": None}, Program, procedures, "p0")

    def test_wrong_bodies(self):
        for wrong in WRONG_BODIES:
            for body in [wrong, ("then", (A, wrong)), ("either", (wrong,)), ("any", wrong), ("times", 0, 0, wrong)]:
                caught(self, BadProgram, {"part": "g"}, Program, {"f": A, "z": wrong, "g": body}, "x")
        for thing in any_values():
            if thing not in (NONE, A):
                caught(self, BadProgram, {"part": "f"}, Program, {"f": thing}, None)

    def test_right_bodies(self):
        for body in [NONE, A, ("read", "Z9."), ("then", ()), ("either", ()), ("then", (A,) * 8), ("either", (NONE,) * 8),
                     ("times", 0, 0, A), ("times", 9, 9, A), ("times", 0, 9, ("any", A)), ("any", ("any", NONE)),
                     ("call", "f"), nested(11, A)]:
            self.assertEqual(Program({"f": body}, "f").procedures, {"f": body})

    def test_first(self):
        for wrong in [None, "g", "", 0, True, ("f",), ["f"], {}]:
            caught(self, BadProgram, {"part": "first"}, Program, {"f": A}, wrong)

    def test_loads(self):
        right = [of_load(400), ("any", of_load(400)), ("times", 0, 0, of_load(401)), ("times", 0, 7, of_load(57)),
                 ("times", 0, 0, of_load(2000)), ("then", (("any", of_load(400)),) * 8),
                 ("times", 9, 9, ("any", of_load(400))), ("times", 0, 0, ("any", of_load(400)))]
        wrong = [of_load(401), ("any", of_load(401)), ("times", 0, 1, of_load(400)), ("times", 0, 8, of_load(50)),
                 ("times", 0, 0, ("any", of_load(401))), ("then", (A, ("any", of_load(401)))),
                 ("any", ("any", of_load(401))), ("times", 0, 7, of_load(58)), ("then", (of_load(200), of_load(200)))]
        for body in right:
            self.assertEqual(Program({"f": body, "g": A}, "g").procedures["f"], body)
        for body in wrong:
            caught(self, BadProgram, {"part": "f"}, Program, {"f": body, "g": A}, "g")
        self.assertEqual(Program({"f": ("times", 9, 9, ("times", 6, 6, ("then", (A,) * 6)))}, "f").first, "f")
        caught(self, BadProgram, {"part": "f"}, Program, {"f": ("times", 9, 9, ("times", 6, 6, LOAD_9))}, "f")

    def test_loads_of_each_kind(self):
        # Where the part's load is 1, these are 1 + 4 * 82 + 37 + 33 + 1.
        for part in [NONE, A, ("call", "g"), ("any", of_load(400)), ("then", ()), ("either", ()), ("times", 0, 0, of_load(9))]:
            right = ("then", (("times", 9, 9, ("either", (part,) * 8)),) * 4 + (
                ("times", 9, 9, ("then", (part,) * 3)), ("times", 8, 8, ("either", (part,) * 3)), part))
            wrong = right[:1] + (right[1][:-1] + (("then", (part,)),),)
            self.assertEqual(Program({"f": right, "g": A}, "g").procedures["f"], right)
            caught(self, BadProgram, {"part": "f"}, Program, {"f": wrong, "g": A}, "g")

    def test_least_name(self):
        caught(self, BadProgram, {"part": "b"}, Program, {"c": None, "b": ("call", "x"), "a": A, "d": of_load(500)}, None)


class Words(unittest.TestCase):
    def test_wrong_programs(self):
        for thing in any_values():
            if not isinstance(thing, Program):
                for function in (letters_of, never, in_rings, turned_about, heads):
                    caught(self, BadProgram, {"part": None}, function, thing)
                caught(self, BadProgram, {"part": None}, is_word_of, thing, ())
                caught(self, BadProgram, {"part": None}, is_word_of, thing, None)
                caught(self, BadProgram, {"part": None}, words_of, thing, -1)

    def test_letters_of(self):
        program = Program({"f": ("times", 0, 0, ("read", "z")), "g": ("then", (A, ("any", ("either", (B, A))))), "h": NONE}, "h")
        self.assertEqual(both_ways(self, letters_of, program=program), ("a", "b", "z"))
        self.assertEqual(letters_of(Program({"f": NONE}, "f")), ())

    def test_words_by_hand(self):
        self.assertEqual(both_ways(self, words_of, program=simple_program(), most=4), [(), ("a", "b"), ("a", "a", "b", "b")])
        for body, words in [(NONE, [()]), (A, [("a",)]), (("then", ()), [()]), (("either", ()), []),
                            (("then", (A, ("either", (B, NONE)))), [("a",), ("a", "b")]),
                            (("times", 2, 3, A), [("a",) * 2, ("a",) * 3]), (("times", 0, 0, A), [()]),
                            (("times", 0, 2, ("either", ())), [()]), (("times", 1, 2, ("either", ())), []),
                            (("any", ("then", (A, B))), [(), ("a", "b"), ("a", "b") * 2]), (("any", NONE), [()]),
                            (("any", ("either", ())), [()]), (("call", "f"), []),
                            (("any", ("either", (NONE, B))), [(), ("b",), ("b",) * 2, ("b",) * 3, ("b",) * 4])]:
            self.assertEqual(words_of(Program({"f": body}, "f"), 4), words)

    def test_words_of_drawn_programs(self):
        drawing = Drawing(41)
        for _ in range(250):
            program = drawing.program(1 + drawing.below(3), 3, ("a", "b"))
            right = words_up_to(program, 4)
            words = words_of(program, 4)
            self.assertEqual(words, sorted(right[program.first], key=lambda word: (len(word), word)))
            self.assertEqual(words, words_of(program, 4))
            for word in words_of(Program({"x": ("any", ("either", (A, B)))}, "x"), 4):
                self.assertIs(is_word_of(program, word), word in right[program.first])
            short = words_up_to(program, 6)
            self.assertEqual(words_of(program, 6), sorted(short["f"], key=lambda word: (len(word), word)))

    def test_is_word_of_any_value(self):
        program = Program({"f": ("any", A)}, "f")
        for thing in any_values():
            self.assertIs(is_word_of(program, thing), thing in ((), ("a",)))
        self.assertIs(both_ways(self, is_word_of, program=program, word=("a", "a")), True)
        for wrong in [["a"], ("a", "b"), ("a", 0), ("a", None), ("a", ("a",)), "a", ("aa",), ("a", ["a"])]:
            self.assertIs(is_word_of(program, wrong), False)

    def test_long_words(self):
        program = simple_program()
        self.assertIs(is_word_of(program, ("a",) * 1000 + ("b",) * 1000), True)
        self.assertIs(is_word_of(program, ("a",) * 1001 + ("b",) * 999), False)
        doubled = Program({"f": ("either", (("then", (("call", "f"), ("call", "f"))), A))}, "f")
        self.assertIs(is_word_of(doubled, ("a",) * 1500), True)
        self.assertIs(is_word_of(doubled, ()), False)
        rounds = Program({"f": ("times", 9, 9, ("times", 3, 5, A))}, "f")
        self.assertEqual([is_word_of(rounds, ("a",) * many) for many in (26, 27, 45, 46)], [False, True, True, False])

    def test_numbers_of_words(self):
        for wrong in [-1, 13, True, None, "1", (0,)]:
            caught(self, BadNumber, {}, words_of, simple_program(), wrong)
        self.assertEqual(len(words_of(Program({"f": ("any", A)}, "f"), 12)), 13)
        self.assertEqual(words_of(simple_program(), 0), [()])
        self.assertEqual(words_of(Program({"f": NONE}, "f"), 12), [()])

    def test_3000_tuples_and_3001(self):
        letters = tuple("x" + str(number) for number in range(3000))
        groups = tuple(letters[at:at + 8] for at in range(0, 3000, 8))
        bodies = {}
        for number, group in enumerate(groups):
            name = "p" + str(number // 7)
            bodies.setdefault(name, []).append(("either", tuple(("read", letter) for letter in group)))
        procedures = {name: ("either", tuple(parts)) for name, parts in bodies.items()}
        program = Program(procedures, "p0")
        self.assertEqual(len(letters_of(program)), 3000)
        caught(self, TooMany, {"most": 3000}, words_of, program, 1)
        self.assertEqual(words_of(program, 0), [])
        procedures["p53"] = NONE
        fewer = Program(procedures, "p0")
        self.assertLess(len(letters_of(fewer)), 3000)
        self.assertEqual(len(words_of(fewer, 1)), 56)
        seven = Program({"f": ("either", tuple(("read", letter) for letter in "abcdefg"))}, "f")
        self.assertEqual(len(words_of(seven, 4)), 7)
        caught(self, TooMany, {"most": 3000}, words_of, seven, 5)
        # 2 + 4 + .. + 1024 and the empty one are 2047 tuples, with 2048 more than 3000.
        self.assertEqual(len(words_of(simple_program(), 10)), 6)
        caught(self, TooMany, {"most": 3000}, words_of, simple_program(), 11)

    def test_just_3000_tuples(self):
        letters = tuple("x" + str(number) for number in range(2999))
        parts = []
        for at in range(0, 2999, 8):
            parts.append(("either", tuple(("read", letter) for letter in letters[at:at + 8])))
        procedures = {"p" + str(at): ("either", tuple(parts[at:at + 8])) for at in range(0, len(parts), 8)}
        program = Program(procedures, "p0")
        self.assertEqual(len(letters_of(program)), 2999)
        self.assertEqual(len(words_of(program, 1)), 64)


class Procedures(unittest.TestCase):
    def test_never(self):
        program = Program({"f": ("call", "f"), "g": ("either", ()), "h": ("then", (A, ("call", "f"))), "i": NONE,
                           "j": ("times", 0, 3, ("call", "f")), "k": ("any", ("call", "f")), "l": ("times", 1, 3, ("call", "f"))},
                          "f")
        self.assertEqual(both_ways(self, never, program=program), ("f", "g", "h", "l"))
        self.assertEqual(never(simple_program()), ())

    def test_in_rings(self):
        program = Program({"a": ("call", "b"), "b": ("then", (A, ("any", ("call", "c")))), "c": ("times", 0, 0, ("call", "b")),
                           "d": ("either", (("call", "a"), ("call", "e"))), "e": NONE, "g": ("call", "g")}, "d")
        self.assertEqual(both_ways(self, in_rings, program=program), ("b", "c", "g"))
        self.assertEqual(in_rings(Program({"f": NONE}, "f")), ())

    def test_never_of_drawn_programs(self):
        drawing = Drawing(42)
        for _ in range(150):
            program = drawing.program(3, 2, ("a",))
            for name in program.procedures:
                begun = Program(program.procedures, name)
                if words_up_to(begun, 6)[name]:
                    self.assertNotIn(name, never(program))
                if name in never(program):
                    self.assertEqual(words_of(begun, 8), [])

    def test_turned_about(self):
        program = Program({"f": ("then", (A, ("any", ("then", (B, ("read", "c")))), ("times", 1, 2, ("then", (A, B))), B)),
                           "g": ("either", (("then", (A, B)), A))}, "g")
        turned = both_ways(self, turned_about, program=program)
        self.assertEqual(turned.procedures["f"], ("then", (B, ("times", 1, 2, ("then", (B, A))),
                                                           ("any", ("then", (("read", "c"), B))), A)))
        self.assertEqual((turned.procedures["g"], turned.first), (("either", (("then", (B, A)), A)), "g"))
        drawing = Drawing(43)
        for _ in range(80):
            program = drawing.program(2, 3, ("a", "b"))
            turned = turned_about(program)
            self.assertEqual(turned_about(turned), program)
            self.assertEqual(sorted(words_of(turned, 5)), sorted(word[::-1] for word in words_of(program, 5)))

    def test_heads(self):
        program = Program({"g": ("then", (("any", ("any", A)), ("times", 0, 0, ("any", B)))), "f": NONE}, "f")
        self.assertEqual(both_ways(self, heads, program=program), [("f",), ("g",), ("g", (0,)), ("g", (0, 0)), ("g", (1, 0))])
        self.assertEqual(heads(Program({"f": ("any", A)}, "f")), [("f",), ("f", ())])
        drawing = Drawing(44)
        for _ in range(60):
            program = drawing.program(3, 4, ("a",))
            found = heads(program)
            self.assertEqual(found, heads_of(program))
            found.append(None)
            self.assertEqual(heads(program), heads_of(program))

    def test_what_is_passed_is_not_changed(self):
        procedures = dict(ROUND_PROGRAM)
        program = Program(procedures, "f")
        for function in (letters_of, never, in_rings, turned_about, heads):
            function(program)
        words_of(program, 6)
        self.assertEqual((procedures, program), (ROUND_PROGRAM, simple_program()))
        words = words_of(program, 6)
        words.clear()
        self.assertEqual(len(words_of(program, 6)), 4)


if __name__ == "__main__":
    unittest.main()
