"""[92] loss, [93] loss_marked, [94] loss_of_breaks, loss_at, loss_swamped, with [3], [4] and [5]."""

import unittest

from breaks import broken_pairs, pairs_at_place
from drawing import Drawing, both_ways, caught, numbers_beyond, program_of_heads, refuses, simple_memory, simple_program, wrong_values
from hitclocks.broken import broken, broken_at, places
from hitclocks.caches import cache
from hitclocks.errors import BadMemory, BadPlace, NoLetter, TooMany
from hitclocks.fronts import front_of, is_below, joined, summed
from hitclocks.heads import heads
from hitclocks.lengths import free
from hitclocks.losses import loss, loss_at, loss_marked, loss_of_breaks, loss_swamped
from hitclocks.memories import Memory, negated, read
from hitclocks.programs import Program, letters_of, words_of
from hitclocks.showings import is_showing, showing
from hitclocks.sides import beside, respelled
from hitclocks.swamped import swamped
from hitclocks.wholes import whole
from reference import words_up_to
from test_at_a_price import memory_of
from test_sides import ring, wrong_alone, wrong_two

A = ("read", "a")
B = ("read", "b")
ZERO = front_of([(0, 0)])
SILENT = Program({"g": ("call", "g")}, "g")
ONCE = cache("last", 1, 2, "once")
LATE = cache("last", 1, 2, "late")


def every(memory):
    return tuple(range(len(memory)))


def difference(one, other, state, against, word):
    paid, less = read(one, state, word)[1], read(other, against, word)[1]
    return (paid[0] - less[0], paid[1] - less[1])


def drawn_losses(seed, many):
    drawing = Drawing(seed)
    for number in range(many):
        one, other = drawing.memory(1 + drawing.below(3), 2, 3), drawing.memory(1 + drawing.below(3), 2, 3)
        if number % 3 == 0:
            other = Memory(one.letters, tuple(tuple((place, a - drawing.below(2), b + drawing.below(2)) for place, a, b in row)
                                              for row in one.moves))
        program = drawing.program(1 + drawing.below(2), 2, ("a", "b"))
        yield drawing, one, other, program, drawing.below(len(one)), drawing.below(len(other))


def drawn_breaks(seed, many):
    drawing = Drawing(seed)
    for _ in range(many):
        memory = drawing.memory(1 + drawing.below(2), 2, 3)
        program, intruder = drawing.program(1, 2, ("a", "b")), drawing.program(1, 2, ("a", "b"))
        if 5 * len(heads(program)) + len(heads(intruder)) <= 24:
            yield drawing, memory, program, intruder, drawing.below(len(memory))


class Loss(unittest.TestCase):
    def test_examples(self):
        some_a = Program({"p": ("any", ("read", "A"))}, "p")
        some = Program({"p": ("any", ("either", (("read", "A"), B)))}, "p")
        for one, other, program, state, front in [(ONCE, LATE, some_a, 0, ("at", (1, 0), 0)), (LATE, ONCE, some, 0, ZERO),
                                                  (LATE, LATE, Program({"p": A}, "p"), 3, front_of([(-1, 0)]))]:
            case = {"one": one, "other": other, "program": program, "state": state, "against": 0}
            self.assertEqual(both_ways(self, loss, **case), front)
        self.assertIsNone(loss(ONCE, LATE, SILENT, 0, 0))
        self.assertEqual(loss(ONCE, LATE, Program({"p": ("none",)}, "p"), 0, 3), ZERO)

    def test_words_in_both_memories(self):
        kinds = {}
        for drawing, one, other, program, state, against in drawn_losses(211, 150):
            front = loss(one, other, program, state, against)
            memory = beside(one, other, state, against, {})
            self.assertEqual(front, whole(memory, program, 0, every(memory)))
            words = words_up_to(program, 5)[program.first]
            pairs = [difference(one, other, state, against, word) for word in words]
            self.assertIs(is_below(front_of(pairs), front), True)
            if len(words_up_to(program, 9)[program.first]) == len(words):
                self.assertEqual(front, front_of(pairs))
            kinds[front and front[0]] = kinds.get(front and front[0], 0) + 1
        self.assertEqual(set(kinds), {None, "endless", "over", "at"})

    def test_facts(self):
        for drawing, one, other, program, state, against in drawn_losses(212, 60):
            self.assertEqual(loss(one, one, program, state, state), ZERO if whole(one, program, state, every(one)) else None)
            third = drawing.memory(2, 2, 3)
            last = drawing.below(2)
            direct = loss(one, third, program, state, last)
            self.assertIs(is_below(direct, summed(loss(one, other, program, state, against), loss(other, third, program, against, last))), True)
            more = summed(whole(other, program, against, every(other)), loss(one, other, program, state, against))
            self.assertIs(is_below(whole(one, program, state, every(one)), more), True)
            self.assertEqual(loss(negated(one), negated(other), program, state, against), loss(other, one, program, against, state))
            memory = beside(one, other, state, against, {})
            shown = showing(memory, program, 0, every(memory))
            self.assertEqual(shown["front"], loss(one, other, program, state, against))
            self.assertIs(is_showing(memory, program, 0, every(memory), shown), True)

    def test_behind_a_word_after_which_all_is_alike(self):
        done = 0
        for drawing, one, other, program, state, against in drawn_losses(213, 150):
            for word in words_of(free(("a", "b")), 2):
                against = drawing.below(len(one))
                if program.first != "z" and read(one, state, word)[0] == read(one, against, word)[0]:
                    behind = ("then", tuple(("read", letter) for letter in word) + (("call", program.first),))
                    front = loss(one, one, Program({**program.procedures, "z": behind}, "z"), state, against)
                    alone = front_of([difference(one, one, state, against, word)])
                    self.assertEqual(front, alone if whole(one, program, 0, every(one)) else None)
                    done += 1
        self.assertGreater(done, 100)

    def test_too_many(self):
        program = program_of_heads(2)
        for one, other, right in [(8, 3, None), (31, 1, None), (32, 1, 2000), (30, 1, None), (11, 11, None), (11, 12, 120), (120, 1, 2000)]:
            case = (ring(one, (1, 0)), ring(other, (0, 1)), program, 0, 0)
            if right is None:
                loss(*case)
            else:
                caught(self, TooMany, {"most": right}, loss, *case)
        caught(self, TooMany, {"most": 999}, loss, ring(40, (999, 0)), ring(1, (-1, 0)), program_of_heads(9), 0, 0)
        caught(self, TooMany, {"most": 120}, loss, ring(40, (999, 0)), ring(7, (-1, 0)), program_of_heads(9), 0, 0)
        self.assertEqual(loss(ring(20, (999, 0)), ring(20, (0, 0)), program_of_heads(5), 0, 0), front_of([(999, 0)]))
        caught(self, TooMany, {"most": 2000}, loss, ring(20, (999, 0)), ring(20, (0, 0)), program_of_heads(6), 0, 0)

    def test_wrong_values(self):
        wrong = {**wrong_two(), **wrong_values(("program", "letters"))}
        refuses(self, loss, {"one": memory_of(2, "ab"), "other": memory_of(3, "ab"), "program": simple_program(), "state": 1, "against": 2}, wrong)
        caught(self, BadMemory, {"part": "letters"}, loss, memory_of(1), simple_memory(), None, None, None)


class Marked(unittest.TestCase):
    def test_by_hand(self):
        program = Program({"p": ("then", (("read", "x"), A))}, "p")
        # From 3 (a held, clean) B a costs (1, 0) and (1, 1), a nothing.
        case = {"memory": LATE, "alone": {"B": "x"}, "program": program, "state": 3}
        self.assertEqual(both_ways(self, loss_marked, **case), front_of([(2, 1)]))
        self.assertEqual(loss_marked(LATE, {}, Program({"p": A}, "p"), 0), ZERO)
        self.assertIsNone(loss_marked(LATE, {"a": "x"}, SILENT, 0))
        self.assertEqual(loss_marked(LATE, {"a": "x"}, Program({"p": ("any", ("read", "x"))}, "p"), 3), ZERO)
        self.assertEqual(loss_marked(LATE, {"a": "x"}, Program({"p": ("any", ("read", "x"))}, "p"), 0), front_of([(1, 0)]))

    def test_words_whole_and_bare(self):
        kinds = {}
        drawing = Drawing(221)
        for _ in range(100):
            memory = drawing.memory(1 + drawing.below(3), 2, 2)
            program = drawing.program(1 + drawing.below(2), 2, ("a", "b", "x", "y"))
            alone = drawing.pick([{"a": "x", "b": "y"}, {"a": "y", "b": "x"}])
            names = {name: letter for letter, name in alone.items()}
            state = drawing.below(len(memory))
            front = both_ways(self, loss_marked, memory=memory, alone=alone, program=program, state=state)
            pairs = []
            words = words_up_to(program, 5)[program.first]
            for word in words:
                paid = read(memory, state, tuple(names.get(letter, letter) for letter in word))[1]
                less = read(memory, state, tuple(letter for letter in word if letter not in names))[1]
                pairs.append((paid[0] - less[0], paid[1] - less[1]))
            self.assertIs(is_below(front_of(pairs), front), True)
            if len(words_up_to(program, 8)[program.first]) == len(words):
                self.assertEqual(front, front_of(pairs))
            kinds[front and front[0]] = True
        self.assertGreater(len(kinds), 2)

    def test_too_many(self):
        letters = tuple(sorted("x" + str(number) for number in range(72)))
        program = Program({"p": ("read", "x0")}, "p")
        many = Memory(letters, tuple(tuple(((state + 1) % 12, 999, 0) for _ in letters) for state in range(12)))
        caught(self, TooMany, {"most": 72}, loss_marked, many, {"x0": "y"}, program, 0)
        caught(self, TooMany, {"most": 120}, loss_marked, ring(12, (999, 0)), {"a": "y"}, Program({"p": A}, "p"), 0)
        self.assertEqual(loss_marked(many, {}, program, 0), ZERO)
        caught(self, TooMany, {"most": 2000}, loss_marked, ring(10, (1, 0)), {"a": "y"}, Program({"p": A}, "p"), 0)
        self.assertEqual(loss_marked(ring(6, (1, 0)), {"a": "y"}, Program({"p": ("read", "y")}, "p"), 0), front_of([(1, 0)]))
        wide = Memory(("a", "b"), (((1, 999, 0), (0, 0, 0)), ((0, -999, 0), (1, 0, 0))))
        caught(self, TooMany, {"most": 999}, loss_marked, wide, {"a": "y"}, program_of_heads(900), 0)

    def test_wrong_values(self):
        foreign = Program({"p": ("either", (A, ("read", "x"), ("read", "y"), ("times", 0, 0, ("read", "q"))))}, "p")
        wrong = {**wrong_values(("memory", "memory"), ("program", "letters"), ("state", "state")), "alone": wrong_alone()}
        wrong["program"] = wrong["program"] + [(foreign, NoLetter, {"letter": "q"})]
        refuses(self, loss_marked, {"memory": simple_memory(), "alone": {"a": "x"}, "program": simple_program(), "state": 0}, wrong)
        caught(self, NoLetter, {"letter": "x"}, loss_marked, simple_memory(), {"a": "q"}, foreign, None)


class Breaks(unittest.TestCase):
    def test_example(self):
        case = {"memory": LATE, "program": Program({"p": A}, "p"), "intruder": Program({"p": ("read", "B")}, "p")}
        self.assertEqual(both_ways(self, loss_of_breaks, **case, count=1, state=3), front_of([(2, 1)]))
        self.assertEqual(both_ways(self, loss_at, **case, place=("p", ()), state=3), front_of([(2, 1)]))
        self.assertEqual(loss_at(*case.values(), (), 3), front_of([(1, 0)]))
        # B a B costs (1, 0), (1, 1) and (1, 0).
        self.assertEqual(both_ways(self, loss_swamped, **case, state=3), front_of([(3, 1)]))
        self.assertEqual(loss_of_breaks(*case.values(), 0, 3), ZERO)
        self.assertIsNone(loss_of_breaks(LATE, SILENT, case["program"], 1, 0))
        self.assertIsNone(loss_of_breaks(LATE, case["program"], SILENT, 1, 0))
        self.assertEqual(loss_swamped(LATE, case["program"], SILENT, 0), ZERO)
        self.assertIsNone(loss_swamped(LATE, SILENT, case["program"], 0))

    def test_against_broken_words(self):
        kinds = {}
        for drawing, memory, program, intruder, state in drawn_breaks(231, 60):
            for count in range(4):
                case = {"memory": memory, "program": program, "intruder": intruder, "count": count, "state": state}
                front = both_ways(self, loss_of_breaks, **case)
                pairs = broken_pairs(program, intruder, count, 4)
                self.finds(front, memory, state, pairs, broken_pairs(program, intruder, count, 7) if len(pairs) < 6 else None)
                kinds[front and front[0]] = True
            for place in places(program):
                front = both_ways(self, loss_at, memory=memory, program=program, intruder=intruder, place=place, state=state)
                pairs = pairs_at_place(program, intruder, place, 5)
                self.finds(front, memory, state, pairs, pairs_at_place(program, intruder, place, 8) if len(pairs) < 9 else None)
            self.assertEqual(both_ways(self, loss_swamped, memory=memory, program=program, intruder=intruder, state=state),
                             loss_swamped(memory, program, intruder, state))
        self.assertGreater(len(kinds), 2)

    def finds(self, front, memory, state, pairs, more):
        """The front tells at least what these pairs of words cost, and just that if there are no more pairs."""
        found = [self.cost(memory, state, word, longer) for word, longer in pairs]
        self.assertIs(is_below(front_of(found), front), True)
        if more is not None and len(more) == len(pairs):
            self.assertEqual(front, front_of(found))

    def cost(self, memory, state, word, longer):
        paid, less = read(memory, state, longer)[1], read(memory, state, word)[1]
        return (paid[0] - less[0], paid[1] - less[1])

    def test_facts(self):
        for drawing, memory, program, intruder, state in drawn_breaks(232, 50):
            self.assertEqual(loss_of_breaks(memory, program, intruder, 0, state), loss(memory, memory, program, state, state))
            front = None
            for place in places(program):
                front = joined(front, loss_at(memory, program, intruder, place, state))
            self.assertEqual(front, loss_of_breaks(memory, program, intruder, 1, state))
            marks = {letter: "n" + letter for letter in letters_of(intruder)}
            marked = respelled(intruder, marks)
            self.assertEqual(loss_swamped(memory, program, intruder, state), loss_marked(memory, marks, swamped(program, marked), state))
            for count in range(3):
                told = loss_of_breaks(memory, program, intruder, count, state)
                self.assertEqual(told, loss_marked(memory, marks, broken(program, marked, count), state))
                ends = every(memory)
                more = summed(whole(memory, program, state, ends), told)
                once = broken(program, intruder, count)
                self.assertIs(is_below(whole(memory, once, state, ends), more), True)
                self.assertIs(is_below(told, loss_swamped(memory, program, intruder, state)), True)
                if 2 * len(heads(once)) + len(heads(intruder)) <= 40 and len(memory) == 1:
                    step = summed(told, loss_of_breaks(memory, once, intruder, 1, state))
                    self.assertIs(is_below(loss_of_breaks(memory, program, intruder, count + 1, state), step), True)
            for place in places(program):
                self.assertEqual(loss_at(memory, program, intruder, place, state),
                                 loss_marked(memory, marks, broken_at(program, marked, place), state))

    def test_intruders_that_leave_each_state(self):
        drawing = Drawing(233)
        for _ in range(40):
            memory = drawing.memory(2, 2, 3)
            memory = Memory(("a", "b"), tuple((row[0], (state,) + row[1][1:]) for state, row in enumerate(memory.moves)))
            program, intruder = drawing.program(1, 2, ("a", "b")), drawing.program(1, 2, ("b",))
            if 3 * len(heads(program)) + len(heads(intruder)) > 30:
                continue
            state = drawing.below(2)
            met = {read(memory, state, word[:gap])[0] for word in words_up_to(program, 6)[program.first] for gap in range(len(word) + 1)}
            front = None
            for place in met:
                front = joined(front, whole(memory, intruder, place, (0, 1)))
            self.assertEqual(loss_of_breaks(memory, program, intruder, 1, state), front)

    def test_swamped_words(self):
        for drawing, memory, program, intruder, state in drawn_breaks(234, 40):
            front = loss_swamped(memory, program, intruder, state)
            inner = words_up_to(intruder, 3)[intruder.first]
            found = []
            for word in words_up_to(program, 3)[program.first]:
                layer = {word}
                for _ in range(3):
                    layer |= {one[:gap] + letters + one[gap:] for one in layer for letters in inner for gap in range(len(one) + 1)
                              if len(one + letters) <= 5}
                found += [self.cost(memory, state, word, longer) for longer in layer]
            self.assertIs(is_below(front_of(found), front), True)
        price_less = Memory(("a", "b"), (((0, 1, -1), (0, 0, 0)),))
        told = loss_swamped(price_less, Program({"f": B}, "f"), Program({"g": A}, "g"), 0)
        self.assertEqual(told, ("over", (1, 1), (0, 1), ((0, 0),)))

    def test_64(self):
        for function, h, i, more, right in [(loss_of_breaks, 31, 1, (1,), True), (loss_of_breaks, 31, 2, (1,), False),
                                            (loss_of_breaks, 15, 4, (3,), False), (loss_of_breaks, 15, 3, (3,), True),
                                            (loss_at, 31, 1, ((),), True), (loss_at, 31, 2, ((),), False),
                                            (loss_swamped, 60, 1, (), True), (loss_swamped, 61, 1, (), False)]:
            case = (memory_of(1), program_of_heads(h), program_of_heads(i), *more, 0)
            if right:
                self.assertIsNotNone(function(*case))
            else:
                caught(self, TooMany, {"most": 64}, function, *case)

    def test_letters_counted_twice(self):
        letters = tuple(sorted("x" + str(number) for number in range(71)))
        memory = Memory(letters, (tuple((0, 1, 1) for _ in letters),))
        one = Program({"f": ("read", "x1")}, "f")
        two = Program({"f": ("either", (("read", "x1"), ("times", 0, 0, ("read", "x2"))))}, "f")
        for function, more in [(loss_of_breaks, (1,)), (loss_at, ((),)), (loss_swamped, ())]:
            self.assertIs(is_below(front_of([(1, 1)]), function(memory, two, one, *more, 0)), True)
            caught(self, TooMany, {"most": 72}, function, memory, one, two, *more, 0)
            # Letters of the kind that the package makes may be taken already.
            taken = Memory(("n0", "n1", "n2"), (((0, 1, 0), (0, 0, 1), (0, 5, 5)),))
            told = function(taken, Program({"f": ("read", "n2")}, "f"), Program({"f": ("read", "n0")}, "f"), *more, 0)
            self.assertEqual(told[3][0] if told[0] == "over" else told, (1, 0) if more else ("at", (0, 1), 0))

    def test_other_reasons_for_too_many(self):
        program, intruder = Program({"f": A}, "f"), Program({"g": A}, "g")
        for function, more, bound in [(loss_of_breaks, (1,), 5), (loss_of_breaks, (0,), 4), (loss_of_breaks, (3,), 7), (loss_at, ((),), 5),
                                      (loss_swamped, (), 5)]:
            # The intruder's letters read alone, a ring of k states has k * k pairs of states.
            for states in (3, 4, 5):
                case = (ring(states, (1, 0)), program, intruder, *more, 0)
                if bound * states ** 4 <= 2000:
                    function(*case)
                else:
                    caught(self, TooMany, {"most": 2000}, function, *case)
            caught(self, TooMany, {"most": 120}, function, ring(11, (999, 0)), program, intruder, *more, 0)
            wide = Memory(("a", "b"), tuple((((state + 1) % 5, 900 - 300 * state, 0), ((state + 1) % 5, 0, 0)) for state in range(5)))
            caught(self, TooMany, {"most": 999}, function, wide, program, intruder, *more, 0)
        other = Program({"g": B}, "g")
        free_of_b = Memory(("a", "b"), tuple((((state + 1) % 20, 1, 0), (state, 0, 1)) for state in range(20)))
        self.assertEqual(loss_of_breaks(free_of_b, program, other, 1, 0), front_of([(0, 1)]))
        # (count + 2) * h + i + 1 is 5, 6, .. for counts from 1: of 20 states 2000 triples and more.
        caught(self, TooMany, {"most": 2000}, loss_of_breaks, free_of_b, program, other, 2, 0)
        caught(self, TooMany, {"most": 2000}, loss_at, free_of_b, program, Program({"g": ("any", B)}, "g"), (), 0)
        self.assertEqual(loss_at(free_of_b, program, other, (), 0), front_of([(0, 1)]))
        caught(self, TooMany, {"most": 2000}, loss_swamped, free_of_b, program, Program({"g": ("any", B)}, "g"), 0)
        self.assertEqual(loss_swamped(free_of_b, program, other, 0), ("at", (1, 0), 0))

    def test_heads_that_no_word_needs_are_counted(self):
        """(count + 2) * h + i + 1, 3 * h + i + 1 and h + i + 3 times states times states, up to 2000 and more."""
        still = {states: Memory(("a", "b"), tuple((((state + 1) % states, 1, 0), (state, 0, 1)) for state in range(states)))
                 for states in (10, 11)}
        unused = {"p" + str(number): ("none",) for number in range(20)}
        for function, more, h, i, right in [
                (loss_of_breaks, (0,), 7, 5, True), (loss_of_breaks, (0,), 7, 6, False), (loss_of_breaks, (0,), 8, 4, False),
                (loss_of_breaks, (1,), 5, 4, True), (loss_of_breaks, (1,), 5, 5, False), (loss_of_breaks, (1,), 6, 2, False),
                (loss_of_breaks, (2,), 4, 3, True), (loss_of_breaks, (2,), 4, 4, False), (loss_of_breaks, (3,), 3, 4, True),
                (loss_of_breaks, (3,), 3, 5, False), (loss_at, ((),), 6, 1, True), (loss_at, ((),), 5, 4, True), (loss_at, ((),), 5, 5, False),
                (loss_swamped, (), 10, 7, True), (loss_swamped, (), 10, 8, False), (loss_swamped, (), 7, 10, True),
                (loss_swamped, (), 8, 10, False)]:
            program = Program({"f": A, **{"p" + str(number): unused["p" + str(number)] for number in range(h - 1)}}, "f")
            intruder = Program({"g": B, **{"p" + str(number): unused["p" + str(number)] for number in range(i - 1)}}, "g")
            case = (still[10], program, intruder, *more, 0)
            if right:
                self.assertIsNotNone(function(*case))
            else:
                caught(self, TooMany, {"most": 2000}, function, *case)
            caught(self, TooMany, {"most": 2000}, function, still[11], *case[1:])

    def test_wrong_values(self):
        wrong = {**wrong_values(("memory", "memory"), ("program", "letters"), ("intruder", "letters"), ("state", "state")),
                 "count": numbers_beyond(0, 3), "place": [(thing, BadPlace, {}) for thing in [
                     None, 0, True, "f", ("f",), ("f", ()), ("f", (0, 1)), ("f", (0, False)), ["f", (0, 0)], ("g", (0, 0)), [], (("f", (0, 0)),)]]}
        case = {"memory": simple_memory(), "program": simple_program(), "intruder": simple_program()}
        refuses(self, loss_of_breaks, {**case, "count": 1, "state": 0}, wrong)
        refuses(self, loss_at, {**case, "place": ("f", (0, 0)), "state": 0}, wrong)
        refuses(self, loss_swamped, {**case, "state": 0}, wrong)


if __name__ == "__main__":
    unittest.main()
