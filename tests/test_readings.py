"""[140] open words and their rests; [141] readings; [142] choices; with [3], [4] and [5]."""

import unittest

from drawing import NOT_NUMBERS, Drawing, any_values, both_ways, caught, program_of_heads, refuses, simple_memory, simple_program, wrong_values
from hitclocks.errors import (BadLetter, BadPrice, BadPrices, BadWord, Barred, ClockError, NoBlock, NotOpen, NothingDone, TooMany)
from hitclocks.fronts import at_price, front_of, is_below, joined, summed
from hitclocks.memories import Memory, negated, read, stepped
from hitclocks.prices import worth
from hitclocks.programs import Program, is_word_of
from hitclocks.readings import Reading, is_open, next_letters, rest_front
from hitclocks.shortest import shortest
from hitclocks.wholes import whole
from reference import words_up_to
from test_alike import words
from test_at_a_price import drawn_cases, memory_of

A = ("read", "a")
B = ("read", "b")
SILENT = Program({"f": ("call", "f"), "g": A}, "f")
FINITE = Program({"f": ("then", (("either", (A, B)), ("times", 0, 2, B)))}, "f")
SIMPLE = {"memory": simple_memory(), "program": simple_program(), "start": 0, "goals": (0,)}


def finite_cases(seed, many):
    """Cases whose programs have no words of more than 7 letters."""
    from hitclocks.lengths import longest
    for drawing, memory, program, start, goals in drawn_cases(seed, many, 3, 3):
        length = longest(memory, program, start, tuple(range(len(memory))))
        if length is None or length != "endless" and length <= 7:
            yield drawing, memory, program, start, goals


class Open(unittest.TestCase):
    def test_against_all_words(self):
        kinds = {}
        for drawing, memory, program, start, goals in finite_cases(381, 220):
            case = {"memory": memory, "program": program, "start": start, "goals": goals}
            runs = [word for word in words_up_to(program, 7)[program.first] if read(memory, start, word)[0] in goals]
            begun = {word[:at] for word in runs for at in range(len(word) + 1)}
            for word in words(memory.letters, 3):
                self.assertIs(both_ways(self, is_open, **case, word=word), word in begun)
                if word not in begun:
                    longest = max([at for at in range(len(word)) if word[:at] in begun], default=None)
                    for function in (rest_front, next_letters):
                        caught(self, NotOpen, {"at": longest}, function, *case.values(), word)
                    kinds[longest] = True
                    continue
                place, paid = read(memory, start, word)
                rests = [read(memory, place, run[len(word):])[1] for run in runs if run[:len(word)] == word]
                self.assertEqual(both_ways(self, rest_front, **case, word=word), front_of(rests))
                after = tuple(letter for letter in memory.letters if word + (letter,) in begun)
                self.assertEqual(both_ways(self, next_letters, **case, word=word), after)
                kinds["open"] = True
        self.assertGreater(len(kinds), 3)

    def test_letter_by_letter(self):
        kinds = {}
        for drawing, memory, program, start, goals in drawn_cases(382, 80, 2, 3):
            case = (memory, program, start, goals)
            front = whole(*case)
            if front is None:
                caught(self, NotOpen, {"at": None}, rest_front, *case, ())
                continue
            self.assertEqual(rest_front(*case, ()), front)
            word = ()
            for _ in range(4):
                letters = next_letters(*case, word)
                rest = rest_front(*case, word)
                place, paid = read(memory, start, word)
                self.assertIsNotNone(rest)
                parts = front_of([(0, 0)]) if place in goals and is_word_of(program, word) else None
                for letter in memory.letters:
                    self.assertIs(is_open(*case, word + (letter,)), letter in letters)
                for letter in letters:
                    step = front_of([stepped(memory, place, letter)[1]])
                    parts = joined(parts, summed(step, rest_front(*case, word + (letter,))))
                self.assertEqual(rest, parts)
                for at in range(len(word) + 1):
                    ahead = summed(front_of([read(memory, start, word[:at])[1]]), rest_front(*case, word[:at]))
                    self.assertIs(is_below(summed(front_of([paid]), rest), ahead), True)
                kinds[rest[0]] = kinds.get(rest[0], 0) + 1
                if not letters:
                    break
                word += (drawing.pick(letters),)
        self.assertGreater(min(kinds.values()), 2)
        self.assertEqual(len(kinds), 3)

    def test_by_hand(self):
        case = tuple(SIMPLE.values())
        self.assertEqual(rest_front(*case, ("a",)), ("over", (3, 2), (0, 1), ((0, -3),)))
        self.assertEqual(rest_front(*case, ("a", "b")), front_of([(0, 0)]))
        self.assertEqual(next_letters(*case, ("a", "b")), ())
        self.assertEqual(next_letters(*case, ("a", "a")), ("a", "b"))
        for word, at in [(("b",), 0), (("a", "b", "a"), 2), (("a", "b", "b", "b"), 2), (("a", "a", "b", "a"), 3)]:
            self.assertIs(is_open(*case, word), False)
            caught(self, NotOpen, {"at": at}, rest_front, *case, word)
            caught(self, NotOpen, {"at": at}, next_letters, *case, word)
        for function in (rest_front, next_letters):
            caught(self, NotOpen, {"at": None}, function, simple_memory(), SILENT, 0, (0,), ())
            caught(self, NotOpen, {"at": None}, function, simple_memory(), SILENT, 0, (0,), ("a", "a"))
        self.assertIs(is_open(simple_memory(), SILENT, 0, (0,), ()), False)
        # A word of the program that leads to no goal is open only if a longer one does.
        two = Memory(("a", "b"), (((1, 1, 0), (0, 0, 1)), ((1, 0, 0), (0, 0, 0))))
        self.assertIs(is_open(two, Program({"f": A}, "f"), 0, (0,), ("a",)), False)
        self.assertIs(is_open(two, Program({"f": ("then", (A, ("times", 0, 1, B)))}, "f"), 0, (0,), ("a",)), True)
        # A letter that the program does not have.
        self.assertIs(is_open(two, Program({"f": ("any", A)}, "f"), 0, (1,), ("b",)), False)
        self.assertEqual(next_letters(two, Program({"f": ("any", A)}, "f"), 0, (1,), ()), ("a",))

    def test_2000_triples(self):
        # One head and 44 states are 1936 triples, 45 are 2025: each letter counts as a state.
        chain = Program({"f": ("either", (("then", (A, ("call", "f"))), ("none",)))}, "f")
        for states, letters in [(1, 43), (14, 30), (44, 0)]:
            memory = memory_of(states)
            ends = tuple(range(states))
            self.assertIs(is_open(memory, chain, 0, ends, ("a",) * letters), True)
            self.assertEqual(rest_front(memory, chain, 0, ends, ("a",) * letters), ("over", (1, 1), (0, 1), ((0, 0),)))
            if letters:
                self.assertEqual(next_letters(memory, chain, 0, ends, ("a",) * (letters - 1)), ("a",))
            caught(self, TooMany, {"most": 2000}, next_letters, memory, chain, 0, ends, ("a",) * letters)
            for function in (is_open, rest_front, next_letters):
                caught(self, TooMany, {"most": 2000}, function, memory, chain, 0, ends, ("a",) * (letters + 1))
        # 5 heads and 20 states are just 2000 triples.
        self.assertIs(is_open(memory_of(19), program_of_heads(5), 0, (1,), ("a",)), True)
        caught(self, TooMany, {"most": 2000}, next_letters, memory_of(19), program_of_heads(5), 0, (1,), ("a",))
        caught(self, TooMany, {"most": 2000}, is_open, memory_of(19), program_of_heads(6), 0, (1,), ("a",))
        # It comes ahead of NotOpen, and behind BadWord.
        caught(self, TooMany, {"most": 2000}, rest_front, memory_of(20, "ab"), program_of_heads(5), 0, (1,), ("b",))
        caught(self, NotOpen, {"at": 0}, rest_front, memory_of(19, "ab"), program_of_heads(5), 0, (1,), ("b",))
        caught(self, TooMany, {"most": 2000}, next_letters, memory_of(19, "ab"), program_of_heads(5), 0, (1,), ("b",))
        caught(self, BadWord, {}, rest_front, memory_of(120), program_of_heads(6), 0, (1,), ("a", "c"))
        caught(self, TooMany, {"most": 2000}, is_open, *SIMPLE.values(), ("a",) * 2000)

    def test_wrong_values(self):
        wrong = wrong_values(("memory", "memory"), ("program", "letters"), ("start", "state"), ("goals", "goals"))
        wrong["word"] = [(thing, BadWord, {}) for thing in any_values() + [["a"], ("c",), ("a", None), ("ab",), "ab", ("a", ("b",)), ("a", True)] if thing not in [(), ("a",), ("a", "b")]]
        for function in (is_open, rest_front, next_letters):
            refuses(self, function, {**SIMPLE, "word": ()}, wrong)


class Account:
    """Keeps every deed of a reading, and what stands of them."""

    def __init__(self, memory, start, price):
        self.memory, self.start, self.first = memory, start, price
        self.deeds = []

    def standing(self):
        """What stands: the list of deeds, and the indexes of those that began open blocks."""
        deeds, open_blocks, kept = [], [], []
        for deed in self.deeds:
            if deed == ("undo",):
                deeds.pop()
            elif deed == ("drop",):
                deeds = deeds[:self.blocks_of(deeds)[-1]]
            else:
                deeds.append(deed)
        return deeds, self.blocks_of(deeds)

    def blocks_of(self, deeds):
        blocks = []
        for at, deed in enumerate(deeds):
            if deed == ("begin",):
                blocks.append(at)
            if deed == ("keep",):
                blocks.pop()
        return blocks

    def told(self):
        deeds, blocks = self.standing()
        word, state, price, paid, value = (), self.start, self.first, (0, 0), 0
        for deed in deeds:
            if deed[0] == "price":
                price = deed[1]
            if deed[0] == "read":
                state, pair = stepped(self.memory, state, deed[1])
                word, paid, value = word + (deed[1],), (paid[0] + pair[0], paid[1] + pair[1]), value + worth(pair, price)
        return {"word": word, "state": state, "price": price, "paid": paid, "paid_worth": value, "blocks": len(blocks), "log": deeds}


class Readings(unittest.TestCase):
    def judge(self, reading, account):
        told = account.told()
        for name, right in told.items():
            self.assertEqual(getattr(reading, name)(), right, name)
        self.assertEqual(len(reading), len(told["log"]))

    def test_against_an_account(self):
        done = {}
        for drawing, memory, program, start, goals in drawn_cases(383, 60, 2, 3):
            case = {"memory": memory, "program": program, "start": start, "goals": goals, "price": drawing.price()}
            if whole(memory, program, start, goals) is None:
                caught(self, NotOpen, {"at": None}, Reading, **case)
                continue
            reading, account = Reading(*case.values()), Account(memory, start, case["price"])
            for _ in range(40):
                kind = drawing.pick(["read", "read", "read", "price", "begin", "keep", "drop", "undo"])
                deeds, blocks = account.standing()
                word = account.told()["word"]
                kept = repr((reading.log(), reading.word(), reading.paid_worth()))
                if kind == "read":
                    letter = drawing.pick(memory.letters)
                    if len(word) > 3:
                        continue
                    if is_open(memory, program, start, goals, word + (letter,)):
                        self.assertEqual(reading.read(letter), stepped(memory, account.told()["state"], letter)[1])
                        account.deeds.append(("read", letter))
                    else:
                        kind = "barred"
                        caught(self, Barred, {"letter": letter}, reading.read, letter)
                elif kind == "price":
                    price = drawing.price()
                    self.assertIsNone(reading.set_price(price))
                    account.deeds.append(("price", price))
                elif kind == "begin":
                    self.assertIsNone(reading.begin())
                    account.deeds.append(("begin",))
                elif kind == "undo":
                    if deeds:
                        self.assertIsNone(reading.undo())
                        account.deeds.append(("undo",))
                    else:
                        caught(self, NothingDone, {}, reading.undo)
                elif blocks:
                    self.assertIsNone(reading.keep() if kind == "keep" else reading.drop())
                    account.deeds.append((kind,))
                else:
                    caught(self, NoBlock, {}, reading.keep if kind == "keep" else reading.drop)
                    self.assertEqual(repr((reading.log(), reading.word(), reading.paid_worth())), kept)
                    kind = "no " + kind
                done[kind] = done.get(kind, 0) + 1
                self.judge(reading, account)
            self.tells_the_rest(reading, memory, program, start, goals)
            again = Reading(*case.values())
            for deed in reading.log():
                {"read": again.read, "price": again.set_price, "begin": again.begin, "keep": again.keep}[deed[0]](*deed[1:])
            self.assertIs(again == reading, True)
        self.assertGreater(min(done.values()), 20)
        self.assertEqual(len(done), 9)

    def tells_the_rest(self, reading, memory, program, start, goals):
        """Letters, rests, choices and worths are those of the word."""
        case = (memory, program, start, goals)
        word, price, state = reading.word(), reading.price(), reading.state()
        self.assertEqual(reading.letters(), next_letters(*case, word))
        self.assertEqual(reading.rest(), rest_front(*case, word))
        self.assertEqual(reading.rest_least(), rest_front(negated(memory), program, start, goals, word))
        self.assertIs(reading.may_end(), is_word_of(program, word) and state in goals)
        most, least = at_price(reading.rest(), price), at_price(reading.rest_least(), price)
        self.assertEqual(reading.most(), most)
        self.assertEqual(reading.least(), least if least == "endless" else -least)
        dearest, cheapest = {None: 0} if reading.may_end() else {}, {None: 0} if reading.may_end() else {}
        for letter in reading.letters():
            paid = worth(stepped(memory, state, letter)[1], price)
            more = at_price(rest_front(*case, word + (letter,)), price)
            less = at_price(rest_front(negated(memory), program, start, goals, word + (letter,)), price)
            dearest[letter] = more if more == "endless" else paid + more
            cheapest[letter] = less if less == "endless" else paid - less
        self.assertEqual(list(reading.worths().items()), list(dearest.items()))
        rank = {"endless": float("inf")}
        top = max(rank.get(value, value) for value in dearest.values())
        self.assertEqual(reading.dearest_choices(), [choice for choice, value in dearest.items() if rank.get(value, value) == top])
        self.assertEqual(most, "endless" if top == float("inf") else top)
        rank = {"endless": -float("inf")}
        low = min(rank.get(value, value) for value in cheapest.values())
        self.assertEqual(reading.cheapest_choices(), [choice for choice, value in cheapest.items() if rank.get(value, value) == low])
        self.assertEqual(reading.least(), "endless" if low == -float("inf") else low)
        for letter in reading.letters():
            pair, rest = both_ways(self, reading.behind, word=(letter,))
            self.assertEqual((pair, rest), (stepped(memory, state, letter)[1], rest_front(*case, word + (letter,))))
            for further in next_letters(*case, word + (letter,)):
                self.assertEqual(reading.behind((letter, further)), (read(memory, state, (letter, further))[1], rest_front(*case, word + (letter, further))))
        self.assertEqual(reading.behind(()), ((0, 0), reading.rest()))

    def test_by_hand(self):
        reading = both_ways(self, Reading, **SIMPLE, price=(2, 3))
        self.assertEqual((reading.letters(), reading.may_end(), reading.rest()), (("a",), True, ("over", (3, 2), (0, 1), ((0, 0),))))
        self.assertEqual((reading.worths(), reading.most(), reading.dearest_choices(), reading.least()), ({None: 0, "a": -5}, 0, [None], "endless"))
        self.assertEqual(reading.cheapest_choices(), ["a"])
        self.assertEqual(reading.read(letter="a"), (2, 0))
        self.assertEqual((reading.paid(), reading.paid_worth(), reading.letters(), reading.may_end()), ((2, 0), 4, ("a", "b"), False))
        self.assertEqual((reading.rest(), reading.most(), reading.dearest_choices()), (("over", (3, 2), (0, 1), ((0, -3),)), -9, ["b"]))
        reading.set_price(price=(3, 1))
        self.assertEqual(reading.most(), "endless")
        self.assertEqual(reading.paid_worth(), 4)
        self.assertEqual(list(reading.worths()), ["a", "b"])
        self.assertEqual((reading.worths(), reading.dearest_choices()), ({"a": "endless", "b": -3}, ["a"]))
        self.assertEqual(reading.best_change([(2, 3), (1, 1), (0, 1)]), ((2, 3), -9))
        self.assertIsNone(reading.best_change(prices=[(1, 0), (2, 1)]))
        self.tells_the_rest(reading, *SIMPLE.values())

    def test_blocks_in_blocks(self):
        reading = Reading(*SIMPLE.values(), (1, 1))
        reading.begin()
        reading.read("a")
        reading.begin()
        reading.read("a")
        reading.keep()
        self.assertEqual((reading.blocks(), len(reading)), (1, 5))
        reading.undo()
        self.assertEqual((reading.blocks(), reading.log()[-1]), (2, ("read", "a")))
        reading.drop()
        self.assertEqual((reading.blocks(), reading.word(), len(reading)), (1, ("a",), 2))
        # drop is no deed: what stands is taken back next.
        reading.undo()
        self.assertEqual((reading.word(), reading.blocks()), ((), 1))
        reading.undo()
        self.assertEqual(reading.blocks(), 0)
        caught(self, NothingDone, {}, reading.undo)
        reading.begin()
        reading.begin()
        reading.set_price((0, 1))
        reading.keep()
        reading.drop()
        self.assertEqual((reading.price(), reading.blocks(), len(reading)), ((1, 1), 0, 0))
        reading.set_price((1, 1))
        self.assertEqual((len(reading), reading.log()), (1, [("price", (1, 1))]))
        caught(self, NoBlock, {}, reading.keep)
        caught(self, NoBlock, {}, reading.drop)
        self.assertEqual(len(reading), 1)

    def test_paid_at_the_price_of_the_moment(self):
        reading = Reading(*SIMPLE.values(), (1, 0))
        reading.read("a")
        reading.set_price((1, 1))
        reading.read("a")
        reading.read("b")
        reading.set_price((0, 1))
        reading.read("b")
        self.assertEqual((reading.paid(), reading.paid_worth()), ((4, -6), 2 + 2 - 3 - 3))
        self.assertEqual((reading.letters(), reading.may_end(), reading.worths(), reading.dearest_choices()), ((), True, {None: 0}, [None]))
        reading.undo()
        reading.undo()
        self.assertEqual((reading.price(), reading.paid_worth()), ((1, 1), 1))

    def test_copies_and_equal_ones(self):
        reading = Reading(*SIMPLE.values(), (1, 1))
        reading.begin()
        reading.read("a")
        other = reading.copy()
        self.assertIs(other == reading, True)
        other.read("b")
        self.assertIs(other == reading, False)
        self.assertEqual((reading.word(), other.word(), reading.blocks()), (("a",), ("a", "b"), 1))
        other.undo()
        self.assertIs(other == reading, True)
        reading.drop()
        self.assertEqual((reading.word(), other.word()), ((), ("a",)))
        other.drop()
        self.assertIs(other == reading, True)
        # What is done and taken back leaves no trace; the first price counts.
        self.assertIs(reading == Reading(*SIMPLE.values(), (1, 1)), True)
        self.assertIs(reading == Reading(*SIMPLE.values(), (1, 0)), False)
        changed = Reading(*SIMPLE.values(), (1, 0))
        changed.set_price((1, 1))
        self.assertIs(reading == changed, False)
        self.assertIs(reading == Reading(negated(simple_memory()), simple_program(), 0, (0,), (1, 1)), False)
        self.assertIs(reading == Reading(simple_memory(), FINITE, 0, (0,), (1, 1)), False)
        two = Memory(("a", "b"), (((1, 1, 0), (0, 0, 1)), ((1, 0, 0), (0, 0, 0))))
        cases = [Reading(two, FINITE, start, goals, (1, 1)) for start in (0, 1) for goals in ((0,), (1,), (0, 1))]
        for at, one in enumerate(cases):
            for also, another in enumerate(cases):
                self.assertIs(one == another, at == also)
        for thing in any_values():
            self.assertIs(reading == thing, False)
        # Lists that are told are new.
        reading.read("a")
        reading.log().clear()
        reading.worths().clear()
        reading.dearest_choices().clear()
        self.assertEqual(len(reading), 1)
        self.assertEqual(list(reading.worths()), ["a", "b"])

    def test_too_many(self):
        chain = Program({"f": ("either", (("then", (A, ("call", "f"))), ("none",)))}, "f")
        reading = Reading(memory_of(40), chain, 0, tuple(range(40)), (0, 1))
        for _ in range(3):
            reading.read("a")
        self.assertEqual(reading.letters(), ("a",))
        self.assertEqual(reading.behind(("a",))[0], (1, -1))
        caught(self, TooMany, {"most": 2000}, reading.behind, ("a", "a"))
        reading.read("a")
        for function in (reading.letters, reading.worths, reading.dearest_choices, reading.cheapest_choices):
            caught(self, TooMany, {"most": 2000}, function)
        caught(self, TooMany, {"most": 2000}, reading.read, "a")
        caught(self, TooMany, {"most": 2000}, reading.behind, ("a",))
        self.assertEqual((reading.most(), reading.rest()[0], reading.may_end(), len(reading)), (0, "over", True, 4))
        self.assertEqual(reading.best_change([(0, 1)]), ((0, 1), 0))
        # TooMany comes behind BadLetter and BadWord, and ahead of Barred.
        caught(self, BadLetter, {}, reading.read, "b")
        caught(self, BadWord, {}, reading.behind, ("b",))
        two = Reading(memory_of(44, "ab"), chain, 0, tuple(range(44)), (0, 1))
        caught(self, TooMany, {"most": 2000}, two.read, "b")
        caught(self, TooMany, {"most": 2000}, Reading, memory_of(45, "ab"), chain, 0, (0,), (1, 1))
        caught(self, TooMany, {"most": 2000}, Reading, memory_of(45, "ab"), SILENT, 0, (0,), (1, 1))
        caught(self, BadPrice, {}, Reading, memory_of(45, "ab"), SILENT, 0, (0,), (2, 2))
        caught(self, NotOpen, {"at": None}, Reading, memory_of(31, "ab"), SILENT, 0, (0,), (1, 1))

    def test_barred(self):
        reading = Reading(*SIMPLE.values(), (1, 1))
        caught(self, Barred, {"letter": "b"}, reading.read, "b")
        caught(self, Barred, {"letter": "b"}, reading.behind, ("a", "b", "b", "a"))
        caught(self, Barred, {"letter": "a"}, reading.behind, ("a", "b", "a"))
        reading.read("a")
        reading.read("b")
        for letter in "ab":
            caught(self, Barred, {"letter": letter}, reading.read, letter)
            caught(self, Barred, {"letter": letter}, reading.behind, (letter,))
        self.assertEqual(reading.behind(word=()), ((0, 0), front_of([(0, 0)])))
        self.assertEqual(reading.log(), [("read", "a"), ("read", "b")])

    def test_wrong_values(self):
        wrong = wrong_values(("memory", "memory"), ("program", "letters"), ("start", "state"), ("goals", "goals"), ("price", "price"))
        refuses(self, Reading, {**SIMPLE, "price": (1, 1)}, wrong)
        reading = Reading(*SIMPLE.values(), (1, 1))
        reading.begin()
        for thing in any_values() + ["c", "ab", "", "A", ["a"], ("a",)]:
            if not (type(thing) is str and thing in ("a", "b")):
                caught(self, BadLetter, {}, reading.read, thing)
            if not (type(thing) is tuple and all(letter in ("a", "b") for letter in thing if type(letter) is str) and all(type(letter) is str for letter in thing)):
                caught(self, BadWord, {}, reading.behind, thing)
        for price, error, attributes in wrong["price"]:
            caught(self, error, attributes, reading.set_price, price)
        for prices in any_values() + [[(1, 1)] * 21, {(1, 1): 0}]:
            if isinstance(prices, (list, tuple)) and 1 <= len(prices) <= 20:
                caught(self, BadPrices, {"at": 0}, reading.best_change, prices)
            else:
                caught(self, BadPrices, {"at": None}, reading.best_change, prices)
        for at in range(20):
            for price in [(2, 2), (True, 0), [1, 0], None] + NOT_NUMBERS[:2]:
                caught(self, BadPrices, {"at": at}, reading.best_change, [(1, 0)] * at + [price] + [None] * (19 - at))
        self.assertEqual((reading.log(), reading.price()), ([("begin",)], (1, 1)))
        self.assertEqual(reading.best_change([(1, 1)] * 20), ((1, 1), 0))


class Choices(unittest.TestCase):
    def led(self, drawing, reading, choices_of, most_of, sign):
        """Follows choices to an end, if one is come to; whether it was."""
        told = most_of(reading)
        for _ in range(12):
            choices = choices_of(reading)
            self.assertEqual(choices, [choice for choice in [None] + list(reading.letters()) if choice in choices])
            if choices[0] is None and (len(choices) == 1 or drawing.below(2)):
                self.assertEqual(reading.paid_worth(), told)
                return True
            before = most_of(reading)
            price = reading.price()
            for letter in reading.letters():
                other = reading.copy()
                pair = other.read(letter)
                comes_to = most_of(other)
                if letter in choices:
                    self.assertEqual(worth(pair, price) + comes_to, before)
                else:
                    self.assertLess(sign * (worth(pair, price) + comes_to), sign * before)
            letters = [letter for letter in choices if letter is not None]
            reading.read(drawing.pick(letters))
        return False

    def test_led_by_choices(self):
        ended = 0
        for drawing, memory, program, start, goals in drawn_cases(384, 90, 2, 2):
            if whole(memory, program, start, goals) is None:
                continue
            price = drawing.price()
            reading = Reading(memory, program, start, goals, price)
            if reading.most() != "endless":
                ended += self.led(drawing, reading.copy(), lambda one: one.dearest_choices(), lambda one: one.most(), 1)
                # A shortest run of the greatest worth is one of the ways on which the choices lead.
                best, length = shortest(memory, program, start, goals, price)
                self.assertEqual(best, reading.most())
            if reading.least() != "endless":
                ended += self.led(drawing, reading.copy(), lambda one: one.cheapest_choices(), lambda one: one.least(), -1)
            self.assertEqual(len(reading), 0)
        self.assertGreater(ended, 30)

    def test_best_change(self):
        ranks = {"endless": float("inf")}
        drawing = Drawing(385)
        found = {}
        for _, memory, program, start, goals in drawn_cases(386, 60, 2, 3):
            if whole(memory, program, start, goals) is None:
                continue
            reading = Reading(memory, program, start, goals, drawing.price())
            for _ in range(4):
                prices = [drawing.price() for _ in range(1 + drawing.below(5))]
                offered = [reading.price()] + prices
                told = [at_price(reading.rest(), price) for price in offered]
                least = min(told, key=lambda one: ranks.get(one, one))
                right = None if least == "endless" else (offered[told.index(least)], least)
                self.assertEqual(both_ways(self, reading.best_change, prices=prices), right)
                self.assertEqual(reading.best_change(tuple(prices)), right)
                found[right is None or offered[0] == right[0]] = True
        self.assertEqual(len(found), 2)

    def test_errors_are_clock_errors(self):
        self.assertTrue(issubclass(Barred, ClockError))


if __name__ == "__main__":
    unittest.main()
