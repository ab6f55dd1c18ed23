"""[150] texts of memories, programs, fronts, tales and words, with [3] and [5]."""

import unittest

import rows
from drawing import Drawing, any_values, both_ways, caught, simple_memory, simple_program
from hitclocks.broken import broken
from hitclocks.caches import cache
from hitclocks.errors import BadFront, BadMemory, BadProgram, BadTale, BadText, BadWord
from hitclocks.fronts import front_of, is_front
from hitclocks.memories import Memory
from hitclocks.prefixes import prefixes
from hitclocks.programs import Program, turned_about
from hitclocks.pumps import pump
from hitclocks.swamped import swamped
from hitclocks.talewords import tale_from, tale_text
from hitclocks.texts import front_from, front_text, memory_of, memory_text, program_of, program_text, word_from, word_text
from reference import mutants
from test_at_a_price import drawn_cases

A = ("read", "a")
SIGNS = [" ", "0", "1", "9", "-", "+", "/", ":", ",", ".", "(", ")", "\n", "a", "A", "_", "\u0661", "\xb2"]
NO_STRINGS = [thing for thing in any_values() if not isinstance(thing, str)] + [["memory 1\n"], b"memory 1\n"]


def letters_of(many):
    signs = "0123456789ABCDEFGHIJKLMNOPQRSTUVWXYZabcdefghijklmnopqrstuvwxyz"
    return tuple(sorted(list(signs) + ["x" + sign for sign in signs]))[:many]


class Judging(unittest.TestCase):
    def judge(self, function, write, row_of, text):
        """What is read of a text, or the row that cannot stand; returns the row."""
        row = row_of(text)
        if row is not None:
            caught(self, BadText, {"row": row}, function, text)
        else:
            thing = function(text)
            self.assertEqual(write(thing), text)
            self.assertEqual(function(write(thing)), thing)
        return row

    def judge_near(self, function, write, row_of, text, signs=SIGNS, step=1):
        seen = {}
        for at, other in enumerate(rows.near(text, signs)):
            if at % step == 0:
                row = self.judge(function, write, row_of, other)
                seen[row] = seen.get(row, 0) + 1
        return seen

    def judge_beginnings(self, function, text):
        """Cut behind a row, a text lacks the next one."""
        lines = text.split("\n")
        for many in range(len(lines) - 1):
            caught(self, BadText, {"row": many}, function, "".join(line + "\n" for line in lines[:many]))
            caught(self, BadText, {"row": many}, function, "\n".join(lines[:many + 1]))
        caught(self, BadText, {"row": len(lines) - 1}, function, text + "\n")
        caught(self, BadText, {"row": len(lines) - 1}, function, text + " ")


class Memories(Judging):
    def test_by_hand(self):
        self.assertEqual(both_ways(self, memory_text, memory=simple_memory()), "memory 1\nletters a b\n0: 0/2/0 0/0/-3\n")
        self.assertEqual(both_ways(self, memory_of, text="memory 1\nletters a b\n0: 0/2/0 0/0/-3\n"), simple_memory())
        late = cache("last", 1, 2, "late")
        self.assertEqual(memory_text(late).split("\n")[:3], ["memory 5", "letters A B a b", "0: 1/1/0 2/1/0 3/1/0 4/1/0"])
        for memory in (late, Memory(letters_of(72), (((0, 999, -999),) * 72,)), Memory(("a",), tuple(((119 - at, at, -at),) for at in range(120)))):
            self.assertEqual(memory_of(memory_text(memory)), memory)
            self.judge_beginnings(memory_of, memory_text(memory)) if len(memory) < 9 else None

    def test_rows_that_cannot_stand(self):
        good = "memory 2\nletters a b\n0: 1/2/0 0/0/-3\n1: 0/-999/999 1/0/0\n"
        self.assertIsNone(rows.memory_row(good))
        seen = self.judge_near(memory_of, memory_text, rows.memory_row, good)
        self.assertEqual(set(seen), {None, 0, 1, 2, 3, 4})
        for text, row in [("memory 0\nletters a\n", 0), ("memory 121\n", 0), ("memory 120\n", 1), ("memory 12000000000000000000000\n", 0), ("memory 1\nletters\n0:\n", 1),
                          ("memory 1\nletters b a\n", 1), ("memory 1\nletters a a\n", 1), ("memory 1\nletters " + " ".join(letters_of(72)) + "\n", 2),
                          ("memory 1\nletters " + " ".join(letters_of(73)) + "\n", 1), ("memory 1\nletters a\n0: 1/0/0\n", 2), ("memory 1\nletters a\n0: 0/1000/0\n", 2),
                          ("memory 1\nletters a\n0: 0/0/-1000\n", 2), ("memory 1\nletters a\n0: 0/-0/0\n", 2), ("memory 1\nletters a\n0: 0/+1/0\n", 2),
                          ("memory 1\nletters a\n0: 0/01/0\n", 2), ("memory 1\nletters a\n0: 0/0\n", 2), ("memory 1\nletters a\n0: 0/0/0/0\n", 2),
                          ("memory 1\nletters a\n1: 0/0/0\n", 2), ("memory 1\nletters a\n0: 0/0/0\n1: 0/0/0\n", 3), ("memory 2\nletters a\n0: 0/0/0\n0: 0/0/0\n", 3),
                          ("memory 1\nletters a_\n", 1), ("memory 1\nletters " + "a" * 13 + "\n", 1), ("memory 1\nletters a\n0: 0/0/" + "9" * 4000 + "\n", 2), ("", 0), ("\n", 0),
                          ("memory\n", 0), ("memory \n", 0), ("memory 1 \n", 0), (" memory 1\n", 0), ("Memory 1\n", 0), ("memory 1\r\nletters a\r\n", 0), ("f = none\nfirst f\n", 0)]:
            self.assertEqual(self.judge(memory_of, memory_text, rows.memory_row, text), row, text)

    def test_drawn(self):
        drawing = Drawing(401)
        for _ in range(40):
            memory = drawing.memory(1 + drawing.below(4), 1 + drawing.below(3), 999)
            text = memory_text(memory)
            self.assertEqual(memory_of(text), memory)
            self.assertIsNone(rows.memory_row(text))
            self.judge_beginnings(memory_of, text)
        for thing in any_values():
            if not isinstance(thing, Memory):
                caught(self, BadMemory, {"part": None}, memory_text, thing)
        for thing in NO_STRINGS:
            caught(self, BadText, {"row": None}, memory_of, thing)


class Programs(Judging):
    def test_by_hand(self):
        text = "f = either(then(read a, call f, read b), none)\nfirst f\n"
        self.assertEqual(both_ways(self, program_text, program=simple_program()), text)
        self.assertEqual(both_ways(self, program_of, text=text), simple_program())
        for body, written in [(("none",), "none"), (("then", ()), "then()"), (("either", ()), "either()"), (("times", 0, 9, ("none",)), "times 0 9(none)"),
                              (("any", ("either", (A,))), "any(either(read a))"), (("then", (A,) * 8), "then(" + ", ".join(["read a"] * 8) + ")"),
                              (("read", "Ab.9"), "read Ab.9"), (("call", "f"), "call f")]:
            program = Program({"f": body, "a.b": ("none",)}, "f")
            self.assertEqual(program_text(program), "a.b = none\nf = " + written + "\nfirst f\n")
            self.assertEqual(program_of(program_text(program)), program)
        named = Program({"first": ("call", "none"), "none": ("read", "none"), "memory": A}, "first")
        self.assertEqual(program_text(named), "first = call none\nmemory = read a\nnone = read none\nfirst first\n")
        self.assertEqual(program_of(program_text(named)), named)

    def test_errors_of_the_document(self):
        for text, row in [("f = read a\n", 1), ("f = read a\nfirst g\n", 1), ("", 0), ("first f\n", 0), ("f = none\nf = none\nfirst f\n", 1), ("g = none\nf = none\nfirst f\n", 1),
                          ("f = none\nfirst f\nfirst f\n", 2), ("f = none\nfirst f\ng = none\n", 2), ("f = then(" + ", ".join(["none"] * 9) + ")\nfirst f\n", 0),
                          ("f = times 2 1(none)\nfirst f\n", 0), ("f = times 0 10(none)\nfirst f\n", 0), ("f = times 00 1(none)\nfirst f\n", 0), ("f = any()\nfirst f\n", 0),
                          ("f = any(none, none)\nfirst f\n", 0), ("f = times 0 1()\nfirst f\n", 0), ("f = none()\nfirst f\n", 0), ("f = read\nfirst f\n", 0), ("f = read a()\nfirst f\n", 0),
                          ("f = then\nfirst f\n", 0), ("f = then(none,none)\nfirst f\n", 0), ("f = then( none)\nfirst f\n", 0), ("f = then(none, )\nfirst f\n", 0),
                          ("f = then(none\nfirst f\n", 0), ("f = none)\nfirst f\n", 0), ("f = read a_b\nfirst f\n", 0), ("f = call F\nfirst f\n", 0), ("F = none\nfirst F\n", 0),
                          ("f= none\nfirst f\n", 0), ("f =none\nfirst f\n", 0), ("f  = none\nfirst f\n", 0), ("f = none \nfirst f\n", 0), ("f = 1\nfirst f\n", 0), ("f = \nfirst f\n", 0),
                          ("f = none\nfirst  f\n", 1), ("f = none\n first f\n", 1), ("f = none\nfirst f ", 1), ("f = none\nfirst f", 1), ("f = none\n\nfirst f\n", 1)]:
            self.assertEqual(self.judge(program_of, program_text, rows.program_row, text), row, text)
        for text, name in [("f = call g\nfirst f\n", "f"), ("a = none\nb = call z\nc = call z\nfirst a\n", "b"), ("f = times 9 9(times 9 9(times 9 9(none)))\nfirst f\n", "f"),
                           ("a = any(times 9 9(times 9 9(then(none, none, none, none, none))))\nfirst a\n", "a")]:
            self.assertIsNone(rows.program_row(text))
            caught(self, BadProgram, {"part": name}, program_of, text)
        # A row that cannot stand is told ahead of what is called and of loads.
        caught(self, BadText, {"row": 2}, program_of, "f = call g\nfirst f\nx\n")
        caught(self, BadText, {"row": 1}, program_of, "f = call g\n")

    def test_near(self):
        good = "f = times 0 1(either(read a, call g))\ng = any(then())\nfirst f\n"
        seen = self.judge_all(good)
        self.assertLessEqual({None, 0, 1, 2, 3}, set(seen))
        self.assertGreater(seen[None], 30)

    def judge_all(self, good):
        seen = {}
        for text in rows.near(good, SIGNS):
            row = rows.program_row(text)
            if row is not None:
                caught(self, BadText, {"row": row}, program_of, text)
            else:
                try:
                    self.assertEqual(program_text(program_of(text)), text)
                except BadProgram:
                    self.assertTrue("call" in text)
            seen[row] = seen.get(row, 0) + 1
        return seen

    def test_64_procedures_and_65(self):
        names = sorted("p" + str(number) for number in range(65))
        lines = [name + " = none\n" for name in names]
        self.assertEqual(len(program_of("".join(lines[:64]) + "first p0\n").procedures), 64)
        caught(self, BadText, {"row": 64}, program_of, "".join(lines) + "first p0\n")
        caught(self, BadText, {"row": 64}, program_of, "".join(lines[:64]))
        caught(self, BadText, {"row": 65}, program_of, "".join(lines[:64]) + "first p0\nfirst p0\n")

    def test_brackets_60_deep_and_deeper(self):
        for kinds, many in [(["any(", "either("], 60), (["any("], 3000), (["then(", "any("], 350)]:
            body = ("none",)
            for level in range(many):
                tag = kinds[level % len(kinds)][:-1]
                body = ("any", body) if tag == "any" else (tag, (body,))
            program = Program({"f": body}, "f")
            text = program_text(program)
            self.assertEqual(text.count("("), many)
            self.assertEqual(program_of(text), program)
            caught(self, BadText, {"row": 0}, program_of, text.replace(")", "", 1))
        caught(self, BadText, {"row": 0}, program_of, "f = " + "any(" * 5000 + "\nfirst f\n")
        caught(self, BadProgram, {"part": "f"}, program_of, "f = " + "then(" * 5000 + "none" + ")" * 5000 + "\nfirst f\n")

    def test_programs_that_were_returned(self):
        drawing = Drawing(402)
        for _ in range(40):
            program = drawing.program(1 + drawing.below(3), 3, ("a", "b"))
            intruder = Program({"x": ("read", "x")}, "x")
            for made in (program, turned_about(program), prefixes(program), broken(program, intruder, 1), swamped(program, intruder)):
                text = program_text(made)
                self.assertIsNone(rows.program_row(text))
                try:
                    Program(made.procedures, made.first)
                except BadProgram as error:
                    caught(self, BadProgram, {"part": error.part}, program_of, text)
                else:
                    self.assertEqual(program_of(text), made)
            self.judge_beginnings(program_of, program_text(program))

    def test_wrong_values(self):
        for thing in any_values():
            if not isinstance(thing, Program):
                caught(self, BadProgram, {"part": None}, program_text, thing)
        for thing in NO_STRINGS:
            caught(self, BadText, {"row": None}, program_of, thing)


class Fronts(Judging):
    def test_by_hand(self):
        for front, text in [(("over", (3, 2), (0, 1), ((0, 0),)), "over 3:2 0:1 0,0\n"), (None, "nothing\n"), (("endless",), "endless\n"), (("at", (1, 0), -5), "at 1:0 -5\n"),
                            (front_of([(2, 0), (0, -2)]), "over 1:0 0:1 2,0\n"), (front_of([(2, -7), (0, 2)]), "over 1:0 0:1 2,-7 0,2\n")]:
            self.assertEqual(both_ways(self, front_text, front=front), text)
            self.assertEqual(both_ways(self, front_from, text=text), front)

    def test_near(self):
        for text in ("over 3:2 0:1 12,-7 0,2\n", "at 1:0 -5\n", "nothing\n", "endless\n", "over 1:0 0:1 2,0 0,2\n"):
            seen = self.judge_near(front_from, front_text, rows.front_row, text)
            self.assertLessEqual({None, 0, 1}, set(seen))
        for text in ("", "\n", "nothing", "over 1:0 0:1\n", "over 0:1 1:0 0,0\n", "over 1:0 1:0 0,0\n", "over 2:2 0:1 0,0\n", "at 0:0 1\n", "at 1:1 -0\n", "at 1:1 +1\n", "at 1:1 01\n",
                     "over 1:0 0:1 0,0 0,0\n", "over 1:0 0:1 0,2 2,0\n", "over 1:0 0:1 2,0 1,1 0,2\n", "nothing \n", "at 1:-1 0\n", "over 1:0 0:1 0,0 \n", "over 1:0  0:1 0,0\n"):
            self.assertEqual(self.judge(front_from, front_text, rows.front_row, text), 0, text)
        self.assertEqual(self.judge(front_from, front_text, rows.front_row, "nothing\nnothing\n"), 1)
        self.assertEqual(self.judge(front_from, front_text, rows.front_row, "nothing\nx"), 1)

    def test_drawn_and_long_numbers(self):
        drawing = Drawing(403)
        for _ in range(100):
            front = drawing.front(9)
            self.assertEqual(front_from(front_text(front)), front)
            self.judge_beginnings(front_from, front_text(front))
        long = 10 ** 400 - 1
        for front in (("at", (long, long - 1), -long), front_of([(long, -long), (-long, long)]), ("over", (long, 1), (1, long), ((long, long),))):
            self.assertIs(is_front(front), True)
            self.assertEqual(front_from(front_text(front)), front)

    def test_wrong_values(self):
        for thing in any_values():
            if not is_front(thing):
                caught(self, BadFront, {}, front_text, thing)
        for thing in NO_STRINGS:
            caught(self, BadText, {"row": None}, front_from, thing)


ROUND = (("gap", ("f",), 0, 0), (("f",), 0, ("either", 0, ("then", (("read",), ("call", 0), ("read",))))))
ALL_KINDS = (("gap", ("f", (0, 10)), 3, 12), (("a.b", ()), 0, ("end",)), (("gap",), 7, ("more", ("times", (("none",), ("any", 5), ("call", 12))), 3)),
             (("f", (2,)), 1, ("either", 4, ("more", ("then", ()), 0))), (("f",), 0, ("times", ())), (("f",), 10, ("then", (("read",), ("end",), ("times", (("none",),))))))


def is_entry(thing, at):
    """Whether a value is an entry by its form."""
    def number(value):
        return type(value) is int and value >= 0

    def head(value):
        if type(value) is not tuple or len(value) not in (1, 2) or type(value[0]) is not str or not rows.matches(rows.NAME, value[0]):
            return False
        return len(value) == 1 or type(value[1]) is tuple and all(number(index) for index in value[1])

    def play(value):
        if type(value) is not tuple or not value or type(value[0]) is not str:
            return False
        tag, rest = value[0], value[1:]
        if tag in ("none", "read", "end"):
            return rest == ()
        if tag in ("then", "times"):
            return len(rest) == 1 and type(rest[0]) is tuple and all(play(part) for part in rest[0])
        if tag in ("any", "call"):
            return len(rest) == 1 and number(rest[0])
        if tag == "either":
            return len(rest) == 2 and number(rest[0]) and play(rest[1])
        return tag == "more" and len(rest) == 2 and play(rest[0]) and number(rest[1])

    if type(thing) is not tuple:
        return False
    if at == 0 and len(thing) == 4:
        return type(thing[0]) is str and thing[0] == "gap" and head(thing[1]) and number(thing[2]) and number(thing[3])
    return len(thing) == 3 and head(thing[0]) and number(thing[1]) and play(thing[2])


class Tales(Judging):
    def judge_value(self, thing):
        kept = repr(thing)
        if type(thing) is not tuple or not thing:
            caught(self, BadTale, {"at": None}, tale_text, thing)
            return None
        wrong = [at for at, entry in enumerate(thing) if not is_entry(entry, at)]
        if wrong:
            caught(self, BadTale, {"at": wrong[0]}, tale_text, thing)
        else:
            self.assertEqual(tale_from(tale_text(thing)), thing)
            self.assertEqual(repr(tale_from(tale_text(thing))), kept)
        self.assertEqual(repr(thing), kept)
        return wrong[0] if wrong else "none"

    def test_by_hand(self):
        text = "gap f 0 0\nf 0 either 0(then(read, call 0, read))\n"
        self.assertEqual(both_ways(self, tale_text, tale=ROUND), text)
        self.assertEqual(both_ways(self, tale_from, text=text), ROUND)
        self.assertEqual(tale_text(ALL_KINDS), "gap f/0.10 3 12\na.b/ 0 end\ngap 7 more(times(none, any 5, call 12), 3)\nf/2 1 either 4(more(then(), 0))\nf 0 times()\n"
                                               "f 10 then(read, end, times(none))\n")
        self.assertEqual(tale_from(tale_text(ALL_KINDS)), ALL_KINDS)
        # A procedure called gap, and a gap.
        for tale, right in [(((("gap",), 0, ("none",)),), "gap 0 none\n"), ((("gap", ("gap",), 0, 0),), "gap gap 0 0\n"), (((("gap",), 0, ("more", ("end",), 0)),), "gap 0 more(end, 0)\n"),
                            (((("gap", ()), 0, ("none",)),), "gap/ 0 none\n")]:
            self.assertEqual(tale_text(tale), right)
            self.assertEqual(tale_from(right), tale)

    def test_near(self):
        for text in (tale_text(ROUND), "gap f/0.1 0 12\nf/ 3 more(times(any 0), 10)\n"):
            seen = self.judge_near(tale_from, tale_text, rows.tale_row, text)
            self.assertLessEqual({None, 0, 1}, set(seen))
            self.assertGreater(seen[None], 20)
        self.judge_near(tale_from, tale_text, rows.tale_row, tale_text(ALL_KINDS), step=7)
        for text, row in [("", 0), ("\n", 0), ("f 0 none", 0), ("f 0 none\nf 0 none", 1), ("f 0 none\ngap f 0 0\n", 1), ("gap f 0 0\ngap f 0 0\n", 1), ("f/0. 0 none\n", 0), ("f/.0 0 none\n", 0),
                          ("f/00 0 none\n", 0), ("f 00 none\n", 0), ("f -1 none\n", 0), ("f 0 then\n", 0), ("f 0 either(none)\n", 0), ("f 0 more(3, end)\n", 0), ("f 0 more(end, end)\n", 0),
                          ("f 0 3\n", 0), ("f 0 then(3)\n", 0), ("f 0 any\n", 0), ("f 0 any -1\n", 0), ("f 0 none()\n", 0), ("f 0 more(end, 1, 2)\n", 0), ("f 0 either 0(none, none)\n", 0),
                          ("f 0 either 0()\n", 0), ("F 0 none\n", 0), ("f  0 none\n", 0), ("f 0  none\n", 0), ("f 0 none \n", 0), ("f 0 then(none,none)\n", 0), ("gap f 0\n", 0), ("gap f 0 0 0\n", 0)]:
            self.assertEqual(self.judge(tale_from, tale_text, rows.tale_row, text), row, text)

    def test_values_by_their_form(self):
        seen = {}
        for thing in (ROUND, ALL_KINDS[:3], ALL_KINDS[3:]):
            for changed in mutants(thing):
                row = self.judge_value(changed)
                seen[row] = seen.get(row, 0) + 1
        self.assertGreater(len(seen), 4)
        for thing in any_values():
            self.judge_value(thing)
            self.judge_value((thing,))
        for thing in [(("gap", ("f",), 0, -1),), (("gap", ("f",), True, 0),), ((("f", (True,)), 0, ("none",)),), ((("f", [0]), 0, ("none",)),), ((("f",), 0, ("either", 0, 0)),),
                      ((("f",), 0, ("then", [])),), ROUND[1:] + ROUND[:1], ((("f", (10 ** 12,)), 10 ** 12, ("any", 10 ** 12)),), ((["f"], 0, ("none",)),)]:
            self.judge_value(thing)

    def test_long_numbers_and_deep_plays(self):
        long = 10 ** 400 - 1
        tale = (("gap", ("f", (long,)), long, long), (("f",), long, ("more", ("call", long), long)))
        self.assertEqual(tale_from(tale_text(tale)), tale)
        for many in (60, 3000):
            play = ("read",)
            for level in range(many):
                play = [("then", (play,)), ("either", level, play), ("more", play, level), ("times", (("none",), play))][level % 4]
            text = tale_text(((("f",), 0, play),))
            read = tale_from(text)
            self.assertEqual(tale_text(read), text)
            self.assertEqual(text.count("("), many)
            caught(self, BadText, {"row": 0}, tale_from, text.replace(")\n", "\n"))
            broken_play = ("then", (play, 3))
            caught(self, BadTale, {"at": 0}, tale_text, ((("f",), 0, broken_play),))
        entries = tuple((("f",), 0, ("call", at)) for at in range(5000))
        self.assertEqual(tale_from(tale_text(entries)), entries)

    def test_tales_that_were_returned(self):
        many = 0
        for _, memory, program, start, goals in drawn_cases(404, 60, 2, 3):
            for tale in pump(memory, program, start, goals, (1, 1)) or ():
                self.assertEqual(tale_from(tale_text(tale)), tale)
                self.assertIsNone(rows.tale_row(tale_text(tale)))
                many += 1
        self.assertGreater(many, 20)
        # A tale has no last row of its own: cut behind a row it is a tale still, but for none at all.
        lines = tale_text(ALL_KINDS).split("\n")[:-1]
        for at in range(1, len(lines) + 1):
            self.assertEqual(tale_from("".join(line + "\n" for line in lines[:at])), ALL_KINDS[:at])

    def test_wrong_values(self):
        for thing in NO_STRINGS:
            caught(self, BadText, {"row": None}, tale_from, thing)


class Words(Judging):
    def test_words(self):
        for word, text in [((), "-"), (("a",), "a"), (("a", "Bc", "1.", "."), "a Bc 1. ."), (("a",) * 2000, " ".join("a" * 2000))]:
            self.assertEqual(both_ways(self, word_text, word=word), text)
            self.assertEqual(both_ways(self, word_from, text=text), word)
        self.judge_near(word_from, word_text, rows.word_row, "a Bc 1.")
        self.judge_near(word_from, word_text, rows.word_row, "-")
        for text in ("", " ", "--", "- -", "a -", "a  b", " a", "a ", "a\n", "-\n", "a_b", "a" * 13, " ".join("a" * 2001), "a\tb", "\xe4"):
            self.assertEqual(self.judge(word_from, word_text, rows.word_row, text), 0)

    def test_wrong_values(self):
        def fits(thing):
            return type(thing) is tuple and len(thing) <= 2000 and all(type(letter) is str and rows.matches(rows.LETTER, letter) for letter in thing)

        self.assertEqual(word_text(("read", "a")), "read a")
        for thing in any_values() + [["a"], "a", ("a",) * 2001, ("a", ""), ("a b",), ("-",), ("a", 1), ("a", None), ("a" * 13,), ("a_",)]:
            if not fits(thing):
                caught(self, BadWord, {}, word_text, thing)
        for thing in NO_STRINGS:
            caught(self, BadText, {"row": None}, word_from, thing)


if __name__ == "__main__":
    unittest.main()
