"""[151] the desk, [152] its answers, with [3] and [5]."""

import unittest

from drawing import Drawing, any_values, both_ways, caught, program_of_heads, simple_memory, simple_program
from hitclocks.caches import cache
from hitclocks.dearest import most_at
from hitclocks.desk import Desk
from hitclocks.errors import BadName, BadProgram, BadText, NoName, NothingDone
from hitclocks.fronts import is_below
from hitclocks.memories import Memory, read
from hitclocks.programs import Program, in_rings, is_word_of, never, words_of
from hitclocks.texts import front_text, memory_text, program_text, word_text
from hitclocks.wholes import cheapest, critical, whole
from test_at_a_price import drawn_cases, memory_of

MEMORY = memory_text(simple_memory())
PROGRAM = program_text(simple_program())
LATE = memory_text(cache("last", 1, 2, "late"))
OTHER = "a = then(read a, read b)\nb = call b\nc = any(call a)\nfirst c\n"


def desk_of(**texts):
    desk = Desk()
    for name, text in texts.items():
        desk.load(name, text)
    return desk


SIMPLE = {"m": MEMORY, "f": PROGRAM, "late": LATE, "g": OTHER}


class Desks(unittest.TestCase):
    def test_deeds(self):
        desk = Desk()
        self.assertEqual((desk.log(), desk.names()), ([], {}))
        caught(self, NothingDone, {}, desk.undo)
        self.assertIsNone(desk.load(name="m", text=MEMORY))
        desk.load("f", PROGRAM)
        desk.load("a", LATE)
        self.assertEqual(list(desk.names().items()), [("a", "memory"), ("f", "program"), ("m", "memory")])
        self.assertIsNone(desk.drop(name="m"))
        self.assertEqual(desk.log(), [("load", "m", MEMORY), ("load", "f", PROGRAM), ("load", "a", LATE), ("drop", "m")])
        caught(self, NoName, {"name": "m"}, desk.drop, "m")
        self.assertIsNone(desk.undo())
        self.assertEqual(desk.names()["m"], "memory")
        desk.load("m", PROGRAM)
        self.assertEqual(desk.names()["m"], "program")
        desk.load("m", OTHER)
        self.assertEqual(desk.answer("show m"), OTHER)
        desk.undo()
        self.assertEqual(desk.answer("show m"), PROGRAM)
        desk.undo()
        self.assertEqual(desk.answer("show m"), MEMORY)
        desk.drop("m")
        desk.load("m", OTHER)
        desk.undo()
        self.assertEqual(desk.answer("show m"), "no m")
        desk.undo()
        self.assertEqual(desk.answer("show m"), MEMORY)
        for _ in range(3):
            desk.undo()
        self.assertEqual((desk.log(), desk.names()), ([], {}))
        caught(self, NothingDone, {}, desk.undo)

    def test_what_is_told_is_new(self):
        desk = desk_of(**SIMPLE)
        desk.log().clear()
        desk.names().clear()
        self.assertEqual((len(desk.log()), len(desk.names())), (4, 4))

    def test_copies_and_equal_ones(self):
        desk = desk_of(**SIMPLE)
        other = desk.copy()
        self.assertIs(desk == other, True)
        other.drop("m")
        self.assertIs(desk == other, False)
        self.assertEqual((desk.answer("show m"), other.answer("show m")), (MEMORY, "no m"))
        desk.load("m", LATE)
        self.assertEqual((desk.answer("show m"), other.answer("show m")), (LATE, "no m"))
        other.undo()
        desk.undo()
        self.assertIs(desk == other, True)
        self.assertEqual((desk.answer("show m"), other.answer("show m")), (MEMORY, MEMORY))
        # The deeds that stand count, not what stands by them.
        twice = desk_of(m=MEMORY)
        twice.load("m", MEMORY)
        self.assertIs(twice == desk_of(m=MEMORY), False)
        twice.undo()
        self.assertIs(twice == desk_of(m=MEMORY), True)
        self.assertIs(Desk() == Desk(), True)
        for thing in any_values():
            self.assertIs(Desk() == thing, False)

    def test_errors_change_nothing(self):
        desk = desk_of(**SIMPLE)
        kept = desk.log()
        for name in any_values() + ["M", "1a", "a_", "a" * 13, "", "a b", ["m"], ("m",)]:
            if not (type(name) is str and name in ("a", "f", "endless", "none", "at")):
                caught(self, BadName, {}, desk.load, name, None)
                caught(self, BadName, {}, desk.load, name, MEMORY)
                caught(self, BadName, {}, desk.drop, name)
        for name in ("x", "mm", "late.", "a"):
            caught(self, NoName, {"name": name}, desk.drop, name)
        for text, row in [(None, None), (5, None), ([MEMORY], None), ("", 0), ("memory 2\n", 1), ("memory 1\nletters a\n0: 1/0/0\n", 2), ("f = none\nfirst g\n", 1), ("Memory 1\n", 0),
                          (MEMORY + "x\n", 3), (MEMORY[:-1], 2), (PROGRAM + PROGRAM, 2), (" " + MEMORY, 0)]:
            caught(self, BadText, {"row": row}, desk.load, "m", text)
            caught(self, BadText, {"row": row}, desk.load, "new", text)
        caught(self, BadProgram, {"part": "f"}, desk.load, "m", "f = call g\nfirst f\n")
        self.assertEqual((desk.log(), desk.names()), (kept, {"f": "program", "g": "program", "late": "memory", "m": "memory"}))

    def test_a_program_whose_least_procedure_is_called_memory(self):
        text = program_text(Program({"memory": ("none",), "n": ("none",)}, "n"))
        self.assertEqual(text, "memory = none\nn = none\nfirst n\n")
        caught(self, BadText, {"row": 0}, Desk().load, "m", text)
        desk = desk_of(p="memory.x = none\nfirst memory.x\n", q="a = none\nmemory = none\nfirst memory\n")
        self.assertEqual(desk.names(), {"p": "program", "q": "program"})

    def test_led_by_a_log(self):
        drawing = Drawing(411)
        for _ in range(30):
            desk = Desk()
            for _ in range(drawing.below(12)):
                name = drawing.pick(["m", "f", "x"])
                kind = drawing.below(4)
                if kind == 0 and name in desk.names():
                    desk.drop(name)
                elif kind == 1 and desk.log():
                    desk.undo()
                else:
                    desk.load(name, drawing.pick([MEMORY, PROGRAM, LATE, OTHER]))
            other = Desk()
            for deed in desk.log():
                {"load": other.load, "drop": other.drop}[deed[0]](*deed[1:])
            self.assertIs(other == desk, True)
            self.assertIs(desk.copy() == other, True)
            for line in ("names", "show m", "show f", "show x", "whole m f 0 0", "words x 3", "rings f"):
                self.assertEqual(other.answer(line), desk.answer(line))
                self.assertEqual(desk.copy().answer(line), desk.answer(line))
            standing = {}
            for deed in desk.log():
                if deed[0] == "load":
                    standing[deed[1]] = deed[2]
                else:
                    del standing[deed[1]]
            self.assertEqual({name: desk.answer("show " + name) for name in desk.names()}, standing)
            self.assertEqual(list(desk.names()), sorted(standing))


class Answers(unittest.TestCase):
    def test_each_form(self):
        desk = desk_of(**SIMPLE)
        kept = desk.log()
        for line, right in [
                ("names", "f program, g program, late memory, m memory"), ("show m", MEMORY), ("show f", PROGRAM), ("whole m f 0 0", "over 3:2 0:1 0,0"),
                ("cheapest m f 0 0", "over 1:0 3:2 0,0"), ("critical m f 0 0", "3:2 0:1"), ("most m f 0 0 2:3", "0"), ("most m f 0 0 1:0", "endless"), ("below m f f 0 0", "yes"),
                ("below m g f 0 0", "yes"), ("words f 4", "-, a b, a a b b"), ("words g 2", "-, a b"), ("words g 0", "-"), ("never f", "none"), ("never g", "b"), ("rings f", "f"),
                ("rings g", "b"), ("read m 0 a b", "0 2,-3"), ("read late 0 -", "0 0,0"), ("read late 0 A a b", "4 2,1"), ("reads f a b", "yes"), ("reads f -", "yes"), ("reads f a", "no"),
                ("reads f Zz.9", "no"), ("whole late g 0 0,1,4", front_text(whole(cache("last", 1, 2, "late"), Program({"a": ("then", (("read", "a"), ("read", "b"))), "c": ("any", (
                    "call", "a"))}, "c"), 0, (0, 1, 4)))[:-1])]:
            self.assertEqual(both_ways(self, desk.answer, line=line), right, line)
        self.assertEqual(Desk().answer("names"), "none")
        desk.load("n", "n = call n\nfirst n\n")
        for line, right in [("whole m n 0 0", "nothing"), ("critical m n 0 0", "1:0"), ("most m n 0 0 1:1", "nothing"), ("words n 5", "none"), ("never n", "n"), ("below m n f 0 0", "yes"),
                            ("below m f n 0 0", "no"), ("cheapest m n 0 0", "nothing")]:
            self.assertEqual(desk.answer(line), right, line)
        desk.load("all", "x = any(read a)\nfirst x\n")
        desk.load("up", "memory 1\nletters a\n0: 0/1/1\n")
        for line, right in [("whole up all 0 0", "endless"), ("critical up all 0 0", "none"), ("rings all", "none"), ("most up all 0 0 0:1", "endless")]:
            self.assertEqual(desk.answer(line), right, line)
        self.assertEqual(desk.log()[:4], kept)

    def test_no_refused_many(self):
        desk = desk_of(**SIMPLE)
        desk.load("big", memory_text(memory_of(45)))
        desk.load("p", "p = read a\nfirst p\n")
        desk.load("wide", program_text(Program({"w": ("either", tuple(("read", letter) for letter in "abcd"))}, "w")))
        desk.load("heads", program_text(program_of_heads(64)))
        for line, right in [
                ("show x", "no x"), ("whole x y 0 0", "no x"), ("whole m y 0 0", "no y"), ("whole f m 0 0", "no f"), ("whole f y 0 0", "no f"), ("whole m m 0 0", "no m"), ("below m f x 9 0", "no x"),
                ("below m x y 9 0", "no x"), ("words m 3", "no m"), ("words x 99", "no x"), ("never late", "no late"), ("rings m", "no m"), ("read f 0 a", "no f"), ("reads m a", "no m"),
                ("most x f 9 9 0:0", "no x"), ("critical g f 0 0", "no g"), ("cheapest m late 0 0", "no late"),
                ("whole m f 1 0", "refused"), ("whole m f 0 1", "refused"), ("whole m f 0 0,1", "refused"), ("whole m wide 0 0", "refused"), ("most m f 0 0 0:0", "refused"),
                ("most m f 0 0 2:2", "refused"), ("most m f 0 0 4:6", "refused"), ("words f 13", "refused"), ("words f 999999999999", "refused"), ("read m 1 a", "refused"), ("read m 0 c", "refused"),
                ("read m 0 a A", "refused"), ("below m f wide 0 0", "refused"), ("below m wide f 0 0", "refused"), ("critical m f 5 0", "refused"), ("cheapest m f 0 7", "refused"),
                ("whole big p 0 0", "many"), ("cheapest big p 0 0", "many"), ("critical big p 0 0", "many"), ("most big p 0 0 1:1", "many"), ("below big p p 0 0", "many"), ("words wide 6", "many"),
                ("words wide 5", ", ".join("abcd")), ("whole big f 0 0", "refused"), ("whole big p 45 0", "refused"), ("whole late heads 0 0", "nothing"), ("most big p 0 0 0:0", "refused")]:
            self.assertEqual(desk.answer(line), right, line)

    def test_lines_of_no_form(self):
        desk = desk_of(**SIMPLE)
        for line in ["", " ", "names ", " names", "names x", "name", "Names", "show", "show m f", "show M", "show 1", "show  m", "show m ", "whole m f 0", "whole m f 0 0 0", "whole m f  0 0", "whole m f 00 0",
                     "whole m f -1 0", "whole m f 0 -1", "whole m f 0 00", "whole m f 0 0,", "whole m f 0 ,0", "whole m f 0 0,,1", "whole m f 0 0, 1", "whole m f x 0", "whole m f 0 x", "whole m f 0 1,0",
                     "whole m f 0 0,0", "whole m f +0 0", "whole M f 0 0", "whole m f 0 0\n", "whole\tm f 0 0", "most m f 0 0", "most m f 0 0 1", "most m f 0 0 1:", "most m f 0 0 :1", "most m f 0 0 1:1:1",
                     "most m f 0 0 -1:1", "most m f 0 0 01:1", "most m f 0 0 1:1 ", "below m f 0 0", "below m f f 0", "words f", "words f -1", "words f 01", "words f x", "words f 1000000000000", "words f 3 3",
                     "never", "never f g", "rings", "read m 0", "read m 0 ", "read m 0 - a", "read m 0 a -", "read m 0 a  b", "read m 0 a_", "read m 0 --", "read m x a", "reads f", "reads f ", "reads f a ",
                     "reads f " + "a" * 13, "whole m f 1000000000000 0", "whole m f 0 1000000000000", "most m f 0 0 1000000000000:1", "load m x", "drop m", "undo", "log", "WHOLE m f 0 0", "whole m f \u0660 0"]:
            self.assertEqual(desk.answer(line), "unknown", line)
            self.assertEqual(Desk().answer(line), "unknown", line)
        for thing in any_values() + [b"names", ["names"], ("names",), {"names": 1}]:
            self.assertEqual(desk.answer(thing), "unknown")

    def test_against_the_parts(self):
        for drawing, memory, program, start, goals in drawn_cases(412, 80, 3, 3):
            other = drawing.program(2, 3, memory.letters)
            desk = desk_of(m=memory_text(memory), f=program_text(program), g=program_text(other))
            if drawing.below(2):
                desk = desk.copy()
            ends = ",".join(str(goal) for goal in goals)
            price = drawing.price()
            front = whole(memory, program, start, goals)
            case = " m f {} {}".format(start, ends)
            self.assertEqual(desk.answer("whole" + case), front_text(front)[:-1])
            self.assertEqual(desk.answer("cheapest" + case), front_text(cheapest(memory, program, start, goals))[:-1])
            self.assertEqual(desk.answer("critical" + case), " ".join("{}:{}".format(*one) for one in critical(front)) or "none")
            most = most_at(memory, program, start, goals, price)
            self.assertEqual(desk.answer("most" + case + " {}:{}".format(*price)), "nothing" if most is None else str(most))
            below = is_below(front, whole(memory, other, start, goals))
            self.assertEqual(desk.answer("below m f g {} {}".format(start, ends)), "yes" if below else "no")
            self.assertEqual(desk.answer("words f 4"), ", ".join(word_text(word) for word in words_of(program, 4)) or "none")
            self.assertEqual(desk.answer("never f"), " ".join(never(program)) or "none")
            self.assertEqual(desk.answer("rings f"), " ".join(in_rings(program)) or "none")
            word = tuple(drawing.pick(memory.letters) for _ in range(drawing.below(6)))
            end, (a, b) = read(memory, start, word)
            self.assertEqual(desk.answer("read m {} {}".format(start, word_text(word))), "{} {},{}".format(end, a, b))
            self.assertEqual(desk.answer("reads f " + word_text(word)), "yes" if is_word_of(program, word) else "no")
            self.assertEqual(desk.answer("show m"), memory_text(memory))
            self.assertEqual(desk.answer("show f"), program_text(program))

    def test_letters_up_to_the_end(self):
        desk = desk_of(m=memory_text(Memory(("a",), (((0, 1, -1),),))), p="p = any(read a)\nfirst p\n")
        self.assertEqual(desk.answer("read m 0 " + " ".join("a" * 2000)), "0 2000,-2000")
        self.assertEqual(desk.answer("reads p " + " ".join("a" * 50)), "yes")


if __name__ == "__main__":
    unittest.main()
