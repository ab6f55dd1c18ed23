"""[111] watched, watched_goals, watched_whole, first_barred; [112] least_bans; with [3], [4] and [5]."""

import unittest
from itertools import combinations

from drawing import Drawing, any_values, both_ways, caught, program_of_heads, refuses, simple_memory, simple_program, wrong_values
from hitclocks.barred import first_barred
from hitclocks.broken import broken
from hitclocks.errors import BadFront, BadMonitor, BadProgram, NoLetter, TooMany
from hitclocks.fronts import at_price, front_of, is_below, joined
from hitclocks.lengths import longest
from hitclocks.memories import Memory, read
from hitclocks.monitors import Monitor, at_most, barring, behind, counted, having, just
from hitclocks.programs import Program, letters_of
from hitclocks.showings import is_showing, showing
from hitclocks.watching import least_bans, watched, watched_goals, watched_whole
from hitclocks.wholes import whole
from reference import most, words_up_to
from test_alike import words
from test_at_a_price import PRICES, drawn_cases, memory_of
from test_monitors import AB, drawn_monitor, let, ring

A = ("read", "a")
B = ("read", "b")
NONE = Monitor(AB, ((0, 0),), ())


def wrong_monitors(letters):
    things = [(thing, BadMonitor, {"part": None}) for thing in any_values() if not isinstance(thing, Monitor)]
    others = [ring(2, (0,), ("a", "b", "c")), Monitor(("a",), ((0,),), ()), Monitor(("a", "c"), ((0, 0),), (0,))]
    return things + [(thing, BadMonitor, {"part": "letters"}) for thing in others if thing.letters != letters]


class Watched(unittest.TestCase):
    def test_drawn(self):
        drawing = Drawing(331)
        for _ in range(60):
            memory = drawing.memory(1 + drawing.below(4), 2, 5)
            monitor = drawn_monitor(drawing, 1 + drawing.below(4))
            goals = tuple(sorted({drawing.below(len(memory)) for _ in range(2)}))
            both = both_ways(self, watched, memory=memory, monitor=monitor)
            ends = both_ways(self, watched_goals, memory=memory, goals=goals, monitor=monitor)
            self.assertEqual(len(both), len(memory) * len(monitor))
            self.assertEqual(ends, tuple(state for state in range(len(both)) if state // len(monitor) in goals and state % len(monitor) in monitor.lets))
            start = drawing.below(len(memory))
            for _ in range(8):
                word = tuple(drawing.pick(AB) for _ in range(drawing.below(8)))
                end, pair = read(memory, start, word)
                watch = 0
                for letter in word:
                    watch = monitor.moves[watch][AB.index(letter)]
                self.assertEqual(read(both, start * len(monitor), word), (end * len(monitor) + watch, pair))
        self.assertEqual(watched_goals(simple_memory(), (0,), NONE), ())

    def test_120_states_and_121(self):
        self.assertEqual(len(watched(memory_of(3, "ab"), ring(40, (0,)))), 120)
        self.assertEqual(len(watched(memory_of(120, "ab"), ring(1, (0,)))), 120)
        caught(self, TooMany, {"most": 120}, watched, memory_of(11, "ab"), ring(11, (0,)))
        caught(self, TooMany, {"most": 120}, watched, memory_of(120, "ab"), ring(2, (0,)))
        self.assertEqual(watched_goals(memory_of(120, "ab"), (0, 3), ring(2, (0,))), (0, 6))

    def test_wrong_values(self):
        wrong = {**wrong_values(("memory", "memory"), ("program", "letters"), ("start", "state"), ("goals", "goals")), "monitor": wrong_monitors(AB)}
        case = {"memory": simple_memory(), "program": simple_program(), "start": 0, "goals": (0,), "monitor": ring(1, (0,))}
        refuses(self, watched, {name: case[name] for name in ("memory", "monitor")}, wrong)
        refuses(self, watched_goals, {name: case[name] for name in ("memory", "goals", "monitor")}, wrong)
        refuses(self, watched_whole, case, wrong)
        caught(self, BadMonitor, {"part": "letters"}, watched, memory_of(120, "ab"), ring(2, (0,), ("a", "b", "c")))


class WatchedWhole(unittest.TestCase):
    def test_by_hand(self):
        memory, program = simple_memory(), simple_program()
        case = {"memory": memory, "program": program, "start": 0, "goals": (0,), "monitor": at_most(AB, ("a",), 2)}
        self.assertEqual(both_ways(self, watched_whole, **case), ("over", (1, 0), (0, 1), ((4, -6), (0, 0))))
        self.assertIsNone(watched_whole(memory, program, 0, (0,), NONE))
        self.assertIsNone(watched_whole(memory, program, 0, (0,), counted(AB, AB, 2, 1)))
        self.assertEqual(watched_whole(memory, program, 0, (0,), ~NONE), whole(memory, program, 0, (0,)))

    def test_words_of_finite_programs(self):
        some = 0
        for drawing, memory, program, start, goals in drawn_cases(332, 150, 3, 3):
            length = longest(memory, program, start, tuple(range(len(memory))))
            if length == "endless" or length is not None and length > 7:
                continue
            found = words_up_to(program, 7)[program.first]
            monitor = drawn_monitor(drawing, 1 + drawing.below(3))
            pairs = [read(memory, start, word)[1] for word in found if let(monitor, word) and read(memory, start, word)[0] in goals]
            self.assertEqual(watched_whole(memory, program, start, goals, monitor), front_of(pairs))
            some += len(pairs) > 0
        self.assertGreater(some, 10)

    def test_drawn(self):
        for drawing, memory, program, start, goals in drawn_cases(333, 80, 2, 3):
            one, other = drawn_monitor(drawing, 1 + drawing.below(3)), drawn_monitor(drawing, 1 + drawing.below(3))
            case = (memory, program, start, goals)
            front = watched_whole(*case, one)
            both, ends = watched(memory, one), watched_goals(memory, goals, one)
            for price in PRICES:
                right = most(both, program, start * len(one), ends, price) if ends else None
                self.assertEqual(at_price(front, price), right)
            if ends:
                self.assertEqual(front, whole(both, program, start * len(one), ends))
                self.assertIs(is_showing(both, program, start * len(one), ends, showing(both, program, start * len(one), ends)), True)
            self.assertEqual(joined(front, watched_whole(*case, ~one)), whole(*case))
            self.assertEqual(watched_whole(*case, one | other), joined(front, watched_whole(*case, other)))
            meet = watched_whole(*case, one & other)
            self.assertIs(is_below(meet, front) and is_below(meet, watched_whole(*case, other)), True)
            counts = None
            for number in range(4):
                counts = joined(counts, watched_whole(*case, just(AB, ("a",), number)))
                self.assertEqual(counts, watched_whole(*case, at_most(AB, ("a",), number)))

    def test_2000_triples_of_what_is_watched(self):
        loop = Program({"f": ("any", A)}, "f")
        case = (memory_of(1, "ab"), loop, 0, (0,))
        # Of 2 heads and 31 states there are 1922 triples, of 32 states 2048.
        self.assertEqual(watched_whole(*case, ring(31, (0,)))[0], "over" if whole(*case)[0] == "over" else whole(*case)[0])
        caught(self, TooMany, {"most": 2000}, watched_whole, *case, ring(32, (0,)))
        one = Program({"f": A}, "f")
        # 5 heads and 20 states are 2000 triples.
        self.assertEqual(watched_whole(memory_of(5, "ab"), program_of_heads(5), 0, (1,), ring(4, (1,))), front_of([(1, -1)]))
        caught(self, TooMany, {"most": 2000}, watched_whole, memory_of(5, "ab"), program_of_heads(6), 0, (1,), ring(4, (1,)))
        # More than 120 states side by side: the triples are what is told.
        caught(self, TooMany, {"most": 2000}, watched_whole, memory_of(11, "ab"), one, 0, (0,), ring(11, (0,)))
        caught(self, TooMany, {"most": 2000}, watched_whole, memory_of(11, "ab"), one, 0, (0,), ring(11, ()))
        caught(self, TooMany, {"most": 2000}, watched_whole, memory_of(120, "ab"), one, 0, (0,), ring(40, (0,)))

    def test_break_ins(self):
        drawing = Drawing(334)
        letters = ("a", "b", "x")
        intruder = Program({"x": ("read", "x")}, "x")
        some = 0
        for _ in range(40):
            program = drawing.program(1 + drawing.below(2), 2, AB)
            memory = Memory(letters, tuple(tuple((drawing.below(2), drawing.between(-3, 3), drawing.between(-3, 3)) for _ in letters) for _ in range(2)))
            swarm = with_any_x(program)
            if len(broken(program, intruder, 2).procedures) > 20:
                continue
            for count in range(3):
                front = watched_whole(memory, swarm, 0, (0, 1), just(letters, ("x",), count))
                self.assertEqual(front, whole(memory, broken(program, intruder, count), 0, (0, 1)))
                some += front is not None
        self.assertGreater(some, 40)


def with_any_x(program):
    """The program with any number of x ahead of each read, and behind its first procedure."""
    loop = ("any", ("read", "x"))

    def change(body):
        if body[0] == "read":
            return ("then", (loop, body))
        if body[0] in ("then", "either"):
            return (body[0], tuple(change(part) for part in body[1]))
        return body[:-1] + (change(body[-1]),) if body[0] in ("times", "any") else body

    procedures = {name: change(body) for name, body in program.procedures.items()}
    procedures["zz"] = ("then", (("call", program.first), loop))
    return Program(procedures, "zz")


class Barred(unittest.TestCase):
    def test_by_hand(self):
        case = {"program": simple_program(), "monitor": at_most(AB, ("a",), 2)}
        self.assertEqual(both_ways(self, first_barred, **case), ("a", "a", "a", "b", "b", "b"))
        self.assertIsNone(first_barred(simple_program(), ~NONE))
        self.assertEqual(first_barred(simple_program(), NONE), ())
        for body in (("call", "f"), ("either", ()), ("then", (A, ("call", "f")))):
            self.assertIsNone(first_barred(Program({"f": body}, "f"), NONE))
        # Calls that never end beside words.
        looping = Program({"f": ("either", (("call", "f"), ("then", (("call", "f"), ("call", "f"))), B, A, ("then", (("call", "g"), A)))), "g": ("call", "g")}, "f")
        self.assertEqual(first_barred(looping, NONE), ("a",))
        self.assertEqual(first_barred(looping, barring(AB, ("b",))), ("b",))
        self.assertEqual(first_barred(looping, ~having(AB, ("b", "a"))), ("b", "a"))
        self.assertIsNone(first_barred(Program({"f": ("any", A)}, "f"), behind(AB, ("a",), ("b",))))

    def test_drawn(self):
        lengths = {}
        for drawing, _, program, _, _ in drawn_cases(335, 200, 1, 3):
            monitor = drawn_monitor(drawing, 1 + drawing.below(4))
            word = both_ways(self, first_barred, program=program, monitor=monitor)
            barred = [one for one in words_up_to(program, 6)[program.first] if not let(monitor, one)]
            if barred:
                self.assertEqual(word, min(barred, key=lambda one: (len(one), one)))
            else:
                self.assertTrue(word is None or len(word) > 6)
            lengths[None if word is None else len(word)] = True
        self.assertGreater(len(lengths), 4)

    def test_2000_letters_and_2001(self):
        body = ("either", (("then", (A, ("call", "f"))), ("none",)))
        program = Program({"f": body}, "f")
        self.assertEqual(first_barred(program, counted(AB, ("a",), 8, 0)), ("a",))
        self.assertEqual(first_barred(program, ring(40, tuple(range(39)))), ("a",) * 39)
        long = Program({"f": ("times", 5, 5, ("times", 5, 5, ("call", "g"))), "g": ("times", 8, 8, ("call", "h")), "h": ("times", 5, 5, ("times", 2, 2, A))}, "f")
        self.assertEqual(first_barred(long, NONE), ("a",) * 2000)
        more = Program({**long.procedures, "i": ("then", (("call", "f"), B))}, "i")
        caught(self, TooMany, {"most": 2000}, first_barred, more, NONE)
        either = Program({**more.procedures, "j": ("either", (("call", "i"), ("call", "f")))}, "j")
        self.assertEqual(first_barred(either, NONE), ("a",) * 2000)
        caught(self, TooMany, {"most": 2000}, first_barred, either, barring(AB, ("b",)))
        self.assertIsNone(first_barred(either, ~NONE))

    def test_many_triples(self):
        # No limit of triples is told here.
        self.assertEqual(first_barred(program_of_heads(64), ring(40, tuple(range(1)))), ("a",))

    def test_wrong_values(self):
        wrong = wrong_values(("program", "program"))
        wrong["monitor"] = [(thing, BadMonitor, {"part": None}) for thing in any_values() if not isinstance(thing, Monitor)]
        refuses(self, first_barred, {"program": simple_program(), "monitor": NONE}, wrong)
        other = Program({"f": A, "g": ("then", (("read", "z"), ("read", "c")))}, "f")
        caught(self, NoLetter, {"letter": "c"}, first_barred, other, NONE)
        caught(self, BadMonitor, {"part": None}, first_barred, other, None)
        caught(self, NoLetter, {"letter": "b"}, first_barred, simple_program(), Monitor(("a", "c"), ((0, 0),), (0,)))


class Bans(unittest.TestCase):
    def by_words(self, memory, program, start, goals, bound):
        """The least lots, by each lot of letters."""
        fitting = []
        letters = letters_of(program)
        for many in range(len(letters) + 1):
            for lot in combinations(letters, many):
                front = watched_whole(memory, program, start, goals, barring(memory.letters, lot))
                if is_below(front, bound):
                    fitting.append(lot)
        return sorted(lot for lot in fitting if not any(set(other) < set(lot) for other in fitting)), fitting

    def test_by_hand(self):
        memory, program = simple_memory(), simple_program()
        case = {"memory": memory, "program": program, "start": 0, "goals": (0,), "bound": front_of([(0, 0)])}
        self.assertEqual(both_ways(self, least_bans, **case), [("a",), ("b",)])
        for bound, right in [(("endless",), [()]), (None, []), (front_of([(-1, -1)]), []), (("over", (3, 2), (0, 1), ((0, 0),)), [()]),
                             (("at", (0, 1), 0), [()]), (("at", (1, 0), 0), [("a",), ("b",)]), (front_of([(5, 5)]), [("a",), ("b",)])]:
            self.assertEqual(least_bans(memory, program, 0, (0,), bound), right, bound)
        without_words = Program({"f": ("call", "f"), "g": A}, "f")
        self.assertEqual(least_bans(memory, without_words, 0, (0,), None), [()])
        found = least_bans(*case.values())
        found.clear()
        self.assertEqual(len(least_bans(*case.values())), 2)

    def test_drawn(self):
        sizes = {}
        for drawing, memory, program, start, goals in drawn_cases(336, 120, 2, 3):
            three = Memory(("a", "b", "c"), tuple(row + (drawing.pick(row),) for row in memory.moves))
            body = drawing.body(2, ("a", "b", "c"), ("f",))
            program = Program({**program.procedures, "f": ("either", (program.procedures["f"], body))}, "f")
            bound = drawing.front(3)
            case = {"memory": three, "program": program, "start": start, "goals": goals, "bound": bound}
            right, fitting = self.by_words(*case.values())
            found = both_ways(self, least_bans, **case)
            self.assertEqual(found, right)
            for lot in fitting:
                self.assertTrue(any(set(other) <= set(lot) for other in found))
            for lot in found:
                sizes[len(lot)] = sizes.get(len(lot), 0) + 1
        self.assertGreater(len(sizes), 2)

    def test_8_letters_and_9(self):
        letters = tuple("abcdefghi")
        memory = Memory(letters, (tuple((0, number, 0) for number in range(9)),))
        # Any run of eight letters: those that pay more than 3 have to go.
        eight = Program({"f": ("either", tuple(("read", letter) for letter in letters[:8]))}, "f")
        self.assertEqual(least_bans(memory, eight, 0, (0,), front_of([(3, 0)])), [("e", "f", "g", "h")])
        all_of = Program({"f": ("then", tuple(("read", letter) for letter in letters[:8]))}, "f")
        self.assertEqual(least_bans(memory, all_of, 0, (0,), None), [(letter,) for letter in letters[:8]])
        nine = Program({"f": ("then", (("call", "g"), ("read", "i"))), "g": eight.procedures["f"]}, "f")
        caught(self, TooMany, {"most": 8}, least_bans, memory, nine, 0, (0,), None)
        # The letters count ahead of the triples, and also where no run comes.
        unused = Program({"f": A, "g": ("then", tuple(("read", letter) for letter in letters[1:]))}, "f")
        caught(self, TooMany, {"most": 8}, least_bans, memory_of(45, letters), unused, 0, (0,), None)
        caught(self, TooMany, {"most": 2000}, least_bans, memory_of(45, letters), eight, 0, (0,), None)
        self.assertEqual(least_bans(memory_of(44), Program({"f": A}, "f"), 0, (1,), None), [("a",)])

    def test_wrong_values(self):
        wrong = wrong_values(("memory", "memory"), ("program", "letters"), ("start", "state"), ("goals", "goals"))
        wrong["bound"] = [(thing, BadFront, {}) for thing in [0, "endless", "nothing", (), ["endless"], ("at", (1, 0), True), ("over", (1, 0), (0, 1), ())]]
        case = {"memory": simple_memory(), "program": simple_program(), "start": 0, "goals": (0,), "bound": None}
        refuses(self, least_bans, case, wrong)
        nine = Program({"f": ("any", ("either", tuple(("read", letter) for letter in "abcdefgh"))), "g": ("read", "i")}, "f")
        memory = Memory(tuple("abcdefghi"), (((0, 0, 0),) * 9,))
        caught(self, BadFront, {}, least_bans, memory, nine, 0, (0,), 0)
        caught(self, BadProgram, {"part": None}, least_bans, memory, None, 0, (0,), 0)


if __name__ == "__main__":
    unittest.main()
