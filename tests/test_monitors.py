"""[110] Monitor, least_monitor, barring, at_most, just, counted, behind, having, with [3] and [5]."""

import unittest
from itertools import product

from drawing import NOT_NUMBERS, Drawing, any_values, both_ways, caught, numbers_beyond
from hitclocks.errors import BadLot, BadMonitor, BadNumber, BadWord, TooMany
from hitclocks.monitors import Monitor, at_most, barring, behind, counted, having, just, least_monitor
from test_alike import words

AB = ("a", "b")
ABC = ("a", "b", "c")


def drawn_monitor(drawing, states, letters=AB):
    moves = tuple(tuple(drawing.below(states) for _ in letters) for _ in range(states))
    return Monitor(letters, moves, tuple(state for state in range(states) if drawing.below(2)))


def ring(states, lets, letters=AB):
    """The first letter goes on in a ring, the others stay."""
    moves = tuple(tuple((state + 1) % states if letter == letters[0] else state for letter in letters) for state in range(states))
    return Monitor(letters, moves, lets)


def let(monitor, word):
    state = 0
    for letter in word:
        state = monitor.moves[state][monitor.letters.index(letter)]
    return state in monitor.lets


def letters_of(many):
    signs = "0123456789ABCDEFGHIJKLMNOPQRSTUVWXYZabcdefghijklmnopqrstuvwxyz"
    return tuple(sorted(list(signs) + ["x" + sign for sign in signs]))[:many]


class Monitors(unittest.TestCase):
    def test_attributes(self):
        monitor = both_ways(self, Monitor, letters=AB, moves=((1, 0), (1, 1)), lets=(0,))
        self.assertEqual((monitor.letters, monitor.moves, monitor.lets, len(monitor)), (AB, ((1, 0), (1, 1)), (0,), 2))
        self.assertEqual(len(ring(40, (3,))), 40)
        self.assertEqual(len(ring(1, ())), 1)
        self.assertEqual(len(Monitor(letters_of(72), ((0,) * 72,), (0,))), 1)
        caught(self, BadMonitor, {"part": "moves"}, Monitor, AB, ((0, 0),) * 41, ())
        caught(self, BadMonitor, {"part": "letters"}, Monitor, letters_of(73), ((0,) * 73,), (0,))

    def test_wrong_values(self):
        moves = ((1, 0), (1, 1))
        for letters in any_values() + [(), ("b", "a"), ("a", "a"), ["a", "b"], ("a", ""), ("a", "x_"), ("a", "b" * 13), ("a", 1), "ab", letters_of(73)]:
            if letters not in (("a",), ("f",), ("endless",), ("none",), ("end",), AB):
                caught(self, BadMonitor, {"part": "letters"}, Monitor, letters, moves, (0,))
        for wrong in [None, [], (), [(1, 0), (1, 1)], 5, "ab", {}, {0: (1, 0)}, ((0, 0),) * 41]:
            caught(self, BadMonitor, {"part": "moves"}, Monitor, AB, wrong, (0,))
        for row in [None, [0, 0], (0,), (0, 0, 0), (0, 2), (-1, 0), (True, 0), (0, False), ("0", 0), 3, "00", (0, None), ((0, 0), 0), {}]:
            caught(self, BadMonitor, {"part": 1}, Monitor, AB, ((1, 0), row), (0,))
            caught(self, BadMonitor, {"part": 0}, Monitor, AB, (row, row), (0,))
            caught(self, BadMonitor, {"part": 0}, Monitor, AB, (row, (0, 0)), None)
        for lets in [None, [0], (0, 0), (1, 0), (2,), (-1,), (True,), (False,), (0, True), ("0",), 0, "0", {}, ((0,),), (None,)]:
            caught(self, BadMonitor, {"part": "lets"}, Monitor, AB, moves, lets)
        caught(self, BadMonitor, {"part": "letters"}, Monitor, letters=None, moves=None, lets=None)
        caught(self, BadMonitor, {"part": "moves"}, Monitor, letters=AB, moves=None, lets=None)
        with self.assertRaises(TypeError):
            list(Monitor(AB, moves, (0,)))

    def test_in(self):
        drawing = Drawing(321)
        for _ in range(40):
            monitor = drawn_monitor(drawing, 1 + drawing.below(4))
            for word in words(AB, 5):
                self.assertIs(word in monitor, let(monitor, word))
        everything = ring(1, (0,))
        for thing in any_values() + [["a"], ("a", "c"), "ab", ("a", None), ("a", ("b",)), {"a": 1}, ("ab",), ("",)]:
            fits = type(thing) is tuple and all(letter in ("a", "b") for letter in thing if type(letter) is str) and all(
                type(letter) is str for letter in thing)
            self.assertIs(thing in everything, fits, thing)
        self.assertIs(("a",) * 2000 in ring(40, (0,)), True)
        self.assertIs(("a",) * 1999 in ring(40, (0,)), False)

    def test_equal(self):
        drawing = Drawing(322)
        equal = 0
        for _ in range(400):
            one, other = drawn_monitor(drawing, 1 + drawing.below(3)), drawn_monitor(drawing, 1 + drawing.below(3))
            # Two monitors of up to 3 states are parted by a word of up to 4 letters.
            right = all(let(one, word) == let(other, word) for word in words(AB, 5))
            self.assertIs(one == other, right)
            self.assertIs(one != other, not right)
            equal += right
            least, least_other = least_monitor(one), least_monitor(other)
            self.assertIs((least.moves, least.lets) == (least_other.moves, least_other.lets), right)
        self.assertGreater(equal, 20)
        self.assertIs(ring(2, (0,)) == ring(4, (0, 2)), True)
        self.assertIs(ring(2, (0,)) == Monitor(("a",), ((1,), (0,)), (0,)), False)
        self.assertIs(ring(1, (0,), ABC) == ring(1, (0,), ("a", "b", "d")), False)
        for thing in any_values():
            self.assertIs(ring(1, (0,)) == thing, False)
            self.assertIs(thing == ring(1, (0,)), False)

    def test_least(self):
        drawing = Drawing(323)
        sizes = {}
        for _ in range(150):
            monitor = drawn_monitor(drawing, 1 + drawing.below(6))
            kept = (monitor.moves, monitor.lets)
            least = both_ways(self, least_monitor, monitor=monitor)
            self.assertEqual((monitor.moves, monitor.lets), kept)
            self.assertIs(least == monitor, True)
            self.assertEqual(least_of_words(monitor), (least.moves, least.lets))
            sizes[len(least)] = sizes.get(len(least), 0) + 1
        self.assertGreater(len(sizes), 3)
        self.assertEqual(len(least_monitor(ring(40, (7,)))), 40)
        self.assertEqual(least_monitor(ring(40, ())).moves, ((0, 0),))
        for thing in any_values():
            caught(self, BadMonitor, {"part": None}, least_monitor, thing)


def least_of_words(monitor):
    """The moves and lets of the least monitor: states are what words let behind them, numbered as they are met."""
    some = words(AB, 6)

    def told(word):
        return tuple(let(monitor, word + further) for further in some)

    waiting, numbered = [()], {told(()): 0}
    moves, lets = [], []
    while waiting:
        word = waiting.pop(0)
        if let(monitor, word):
            lets.append(numbered[told(word)])
        row = []
        for letter in AB:
            further = told(word + (letter,))
            if further not in numbered:
                numbered[further] = len(numbered)
                waiting.append(word + (letter,))
            row.append(numbered[further])
        moves.append(tuple(row))
    return tuple(moves), tuple(lets)


class Operators(unittest.TestCase):
    def test_drawn(self):
        drawing = Drawing(324)
        for _ in range(120):
            one, other = drawn_monitor(drawing, 1 + drawing.below(4)), drawn_monitor(drawing, 1 + drawing.below(4))
            kept = [(monitor.moves, monitor.lets) for monitor in (one, other)]
            for made, right in [(~one, lambda word: not let(one, word)), (one & other, lambda word: let(one, word) and let(other, word)),
                                (one | other, lambda word: let(one, word) or let(other, word))]:
                for word in words(AB, 6):
                    self.assertIs(word in made, right(word))
                self.assertEqual((least_monitor(made).moves, least_monitor(made).lets), (made.moves, made.lets))
            self.assertIs(~~one == one, True)
            self.assertIs(~(one & other) == ~one | ~other, True)
            self.assertEqual([(monitor.moves, monitor.lets) for monitor in (one, other)], kept)

    def test_40_states_and_41(self):
        # Rings of 5 and 8 have 40 states side by side, rings of 6 and 7 have 42.
        for made in (ring(5, (0,)) & ring(8, (0,)), ring(5, (0,)) | ring(8, (0,)), ~ring(40, (0,)), ring(40, (0,)) & ring(40, (0, 1))):
            self.assertEqual(len(made), 40)
        for one, other in [(ring(6, (0,)), ring(7, (0,))), (ring(40, (0,)), ring(39, (0,))), (ring(2, (0,)), ring(21, (0,)))]:
            with self.assertRaises(TooMany) as error:
                one & other
            self.assertEqual(error.exception.most, 40)
            with self.assertRaises(TooMany) as error:
                one | other
            self.assertEqual(error.exception.most, 40)
        # Pairs that are come to may be many more than 40, if the least one is small.
        self.assertEqual(len(ring(39, ()) & ring(40, (0,))), 1)
        self.assertEqual(len(ring(39, tuple(range(39))) & ring(40, (0,))), 40)

    def test_just_one_state_more(self):
        def up_to(states):
            """So many letters a are told apart."""
            return Monitor(AB, tuple((min(state + 1, states - 1), state) for state in range(states)), (states - 1,))

        without = barring(AB, ("b",))
        self.assertEqual(len(up_to(39) & without), 40)
        self.assertEqual(len(~up_to(39) | ~without), 40)
        self.assertEqual(len(~up_to(40)), 40)
        with self.assertRaises(TooMany) as error:
            up_to(40) & without
        self.assertEqual(error.exception.most, 40)
        with self.assertRaises(TooMany) as error:
            ~up_to(40) | ~without
        self.assertEqual(error.exception.most, 40)

    def test_other_values(self):
        monitor = ring(2, (0,))
        for thing in any_values() + [ring(2, (0,), ABC), Monitor(("a",), ((0,),), ())]:
            for run in (lambda: monitor & thing, lambda: monitor | thing):
                caught(self, BadMonitor, {"part": "letters"}, run)


class Made(unittest.TestCase):
    def judge(self, made, letters, is_let, most=6):
        """Whether the monitor lets just the words that it should, and is the least one."""
        for word in words(letters, most):
            self.assertIs(word in made, bool(is_let(word)), word)
        self.assertEqual((least_monitor(made).moves, least_monitor(made).lets), (made.moves, made.lets))

    def many(self, word, some):
        return len([letter for letter in word if letter in some])

    def test_counting(self):
        for some in [(), ("a",), ("c",), ("a", "c"), ABC]:
            self.judge(both_ways(self, barring, letters=ABC, some=some), ABC, lambda word: self.many(word, some) == 0, 5)
            for number in (0, 1, 2, 3):
                case = {"letters": ABC, "some": some, "number": number}
                self.judge(both_ways(self, at_most, **case), ABC, lambda word: self.many(word, some) <= number, 5)
                self.judge(both_ways(self, just, **case), ABC, lambda word: self.many(word, some) == number, 5)
            for step in (1, 2, 3):
                for rest in range(step):
                    case = {"letters": ABC, "some": some, "step": step, "rest": rest}
                    self.judge(both_ways(self, counted, **case), ABC, lambda word: self.many(word, some) % step == rest, 5)
        self.assertEqual(len(just(AB, ("a",), 9)), 11)
        self.assertEqual(len(at_most(AB, ("a",), 9)), 11)
        self.assertEqual(just(AB, (), 0), ring(1, (0,)))
        self.assertEqual(just(AB, (), 9), ring(1, ()))
        self.assertEqual(at_most(AB, (), 9), ring(1, (0,)))
        for word, right in [(("a",) * 9, True), (("a",) * 10, False), (("a", "b") * 9, True), (("b",) * 30 + ("a",) * 9, True), (("a",) * 8, False)]:
            self.assertIs(word in just(AB, ("a",), 9), right)
            self.assertIs(word in at_most(AB, ("a",), 9), right or word == ("a",) * 8)
        self.assertEqual(len(counted(AB, ("a",), 9, 8)), 9)
        self.assertIs(("a",) * 17 in counted(AB, ("a",), 9, 8), True)
        self.assertIs(("a",) * 18 in counted(AB, ("a",), 9, 8), False)
        self.assertEqual(len(barring(letters_of(72), letters_of(72))), 2)

    def test_behind(self):
        for early in [(), ("a",), ("b",), ("a", "b"), ABC]:
            for late in [(), ("a",), ("b", "c"), ABC]:
                def is_let(word):
                    return all(any(other in early for other in word[:at]) for at, letter in enumerate(word) if letter in late)
                self.judge(both_ways(self, behind, letters=ABC, early=early, late=late), ABC, is_let, 5)

    def test_having(self):
        for word in [(), ("a",), ("a", "a"), ("a", "b", "a"), ("a", "b", "a", "b", "b"), ("b", "b", "a", "b", "b", "b"), ("a", "a", "b")]:
            def is_let(longer):
                return any(longer[at:at + len(word)] == word for at in range(len(longer) + 1))
            self.judge(both_ways(self, having, letters=AB, word=word), AB, is_let, 8)
        nine = ("a", "a", "b", "a", "a", "b", "a", "a", "a")
        self.assertEqual(len(having(AB, nine)), 10)
        self.assertIs(("a", "a", "b") + nine in having(AB, nine), True)
        self.assertIs(nine[:8] + ("b",) in having(AB, nine), False)

    def test_facts(self):
        for some in [("a",), ("a", "c")]:
            for most in range(4):
                joined = just(ABC, some, 0)
                for number in range(1, most + 1):
                    joined = joined | just(ABC, some, number)
                self.assertEqual(joined, at_most(ABC, some, most))
            self.assertEqual(barring(ABC, some), at_most(ABC, some, 0))
            self.assertEqual(~at_most(ABC, some, 0), behind_any(some))
        self.assertEqual(having(ABC, ("a", "b")) & barring(ABC, ("b",)), Monitor(ABC, ((0, 0, 0),), ()))

    def test_wrong_values(self):
        wrong_letters = [None, (), ["a", "b"], ("b", "a"), ("a", "a"), "ab", 5, ("a", 1), {"a": 1}, letters_of(73)]
        lots = [thing for thing in any_values() if thing not in [(), ("a",), ("a", "b")]] + [
            ["a"], ("b", "a"), ("a", "a"), ("c",), ("a", "c"), "a", ("a", 1), ("ab",), ("",)]
        numbers = [thing for thing, _, _ in numbers_beyond(0, 9)]
        for function, rest in [(barring, ()), (at_most, (2,)), (just, (2,)), (counted, (2, 1)), (behind, (("b",),))]:
            for letters in wrong_letters:
                caught(self, BadMonitor, {"part": "letters"}, function, letters, ("a",), *rest)
                caught(self, BadMonitor, {"part": "letters"}, function, letters, None, *[None for _ in rest])
            for lot in lots:
                caught(self, BadLot, {}, function, AB, lot, *rest)
                caught(self, BadLot, {}, function, AB, lot, *[None for _ in rest])
        for lot in lots:
            caught(self, BadLot, {}, behind, AB, ("a",), lot)
        for function, number in product((at_most, just), numbers):
            caught(self, BadNumber, {}, function, AB, ("a",), number)
        for step, rest in [(number, 0) for number in NOT_NUMBERS + [0, 10, -1]] + [(3, rest) for rest in NOT_NUMBERS + [3, -1, 10]] + [(1, 1), (9, 9), (None, None)]:
            caught(self, BadNumber, {}, counted, AB, ("a",), step, rest)
        for letters in wrong_letters:
            caught(self, BadMonitor, {"part": "letters"}, having, letters, ())
            caught(self, BadMonitor, {"part": "letters"}, having, letters=letters, word=None)
        for word in [["a"], "a", ("c",), ("a",) * 10, None, 5, (1,), ("ab",), {"a": 1}, ("a", None)]:
            caught(self, BadWord, {}, having, AB, word)


def behind_any(some):
    """The monitor of the words with a letter of some."""
    return Monitor(ABC, (tuple(1 if letter in some else 0 for letter in ABC), (1, 1, 1)), (1,))


if __name__ == "__main__":
    unittest.main()
