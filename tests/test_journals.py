"""[143] journal_of, first_false, replayed, shortened, with [3] and [5]."""

import unittest

from drawing import any_values, both_ways, caught, refuses, simple_memory, simple_program, wrong_values
from hitclocks.errors import BadJournal, BadReading, NotOpen, TooMany
from hitclocks.fronts import front_of, is_below, is_front, summed
from hitclocks.journals import first_false, journal_of, replayed, shortened
from hitclocks.memories import stepped
from hitclocks.prices import is_price, worth
from hitclocks.programs import Program
from hitclocks.readings import Reading, is_open, rest_front
from hitclocks.wholes import whole
from reference import mutants
from test_at_a_price import drawn_cases, memory_of

SIMPLE = (simple_memory(), simple_program(), 0, (0,), (1, 1))


def drawn_readings(seed, many, deeds=7):
    for drawing, memory, program, start, goals in drawn_cases(seed, many, 2, 3):
        if whole(memory, program, start, goals) is None:
            continue
        case = (memory, program, start, goals, drawing.price())
        reading = Reading(*case)
        for _ in range(drawing.below(deeds)):
            kind = drawing.below(6)
            letters = reading.letters()
            if kind <= 2 and letters:
                reading.read(drawing.pick(letters))
            elif kind == 3:
                reading.set_price(drawing.price())
            elif kind == 4:
                reading.begin()
            elif reading.blocks():
                reading.keep()
        yield drawing, case, reading


def false_at(memory, program, start, goals, price, thing):
    """As first_false, by the words of the document: deed by deed, apart from readings."""
    if type(thing) not in (list, tuple):
        return 0
    word, state, paid, value, blocks = (), start, (0, 0), 0, 0
    for at, entry in enumerate(thing):
        if type(entry) is not tuple or len(entry) != 5 or type(entry[0]) is not tuple or not entry[0] or type(entry[0][0]) is not str:
            return at
        deed = entry[0]
        if deed[0] == "read" and len(deed) == 2 and type(deed[1]) is str and deed[1] in memory.letters:
            try:
                if not is_open(memory, program, start, goals, word + (deed[1],)):
                    return at
            except TooMany:
                return at
            state, pair = stepped(memory, state, deed[1])
            word, paid, value = word + (deed[1],), (paid[0] + pair[0], paid[1] + pair[1]), value + worth(pair, price)
        elif deed[0] == "price" and len(deed) == 2 and is_price(deed[1]):
            price = deed[1]
        elif deed == ("begin",):
            blocks += 1
        elif deed == ("keep",) and blocks:
            blocks -= 1
        else:
            return at
        right = (deed, state, paid, value, rest_front(memory, program, start, goals, word))
        if repr(right) != repr(entry) or not is_front(entry[4]):
            return at
    return None


class Journals(unittest.TestCase):
    def test_by_hand(self):
        reading = Reading(*SIMPLE)
        self.assertEqual(journal_of(reading), [])
        reading.begin()
        reading.read("a")
        reading.set_price((0, 1))
        reading.read("b")
        reading.keep()
        front = ("over", (3, 2), (0, 1), ((0, 0),))
        behind = ("over", (3, 2), (0, 1), ((0, -3),))
        journal = [(("begin",), 0, (0, 0), 0, front), (("read", "a"), 0, (2, 0), 2, behind), (("price", (0, 1)), 0, (2, 0), 2, behind),
                   (("read", "b"), 0, (2, -3), -1, front_of([(0, 0)])), (("keep",), 0, (2, -3), -1, front_of([(0, 0)]))]
        self.assertEqual(both_ways(self, journal_of, reading=reading), journal)
        names = ("memory", "program", "start", "goals", "price")
        self.assertIsNone(both_ways(self, first_false, **dict(zip(names, SIMPLE)), thing=journal))
        self.assertIsNone(first_false(*SIMPLE, tuple(journal)))
        self.assertIsNone(first_false(*SIMPLE, []))
        self.assertIsNone(first_false(*SIMPLE, ()))
        self.assertIs(replayed(*SIMPLE, journal) == reading, True)
        shorter = shortened(*SIMPLE, journal)
        self.assertEqual(shorter, journal[1:4])
        # A false front is seen by adding, or at the letter at which it first is too low.
        for at in range(5):
            for false in (None, ("endless",), front_of([(9, 9)]), front_of([(-9, -9)]), list(journal[at][4]), "endless"):
                thing = journal[:at] + [journal[at][:4] + (false,)] + journal[at + 1:]
                self.assertEqual(first_false(*SIMPLE, thing), at)
                caught(self, BadJournal, {"at": at}, replayed, *SIMPLE, thing)

    def test_drawn(self):
        many = 0
        for drawing, case, reading in drawn_readings(391, 150):
            journal = journal_of(reading)
            self.assertIsNone(first_false(*case, journal))
            self.assertIsNone(false_at(*case, journal))
            self.assertEqual([entry[0] for entry in journal], reading.log())
            again = replayed(*case, journal)
            self.assertIs(again == reading, True)
            self.assertEqual(journal_of(again), journal)
            self.assertEqual(journal_of(reading.copy()), journal)
            fronts = [summed(front_of([paid]), front) for _, _, paid, _, front in journal]
            for ahead, behind in zip([reading.behind(())[1] if not journal else whole(*case[:4])] + fronts, fronts):
                self.assertIs(is_below(behind, ahead), True)
            if journal:
                # What is told of another reading, or of one that began otherwise, is false somewhere.
                cut = drawing.below(len(journal))
                self.assertIsNone(first_false(*case, journal[:cut]))
                thing = journal[:cut] + journal[cut + 1:]
                self.assertEqual(first_false(*case, thing), false_at(*case, thing))
                many += 1
            before = len(journal)
            journal.clear()
            self.assertEqual(len(journal_of(reading)), before)
        self.assertGreater(many, 40)

    def test_one_thing_otherwise(self):
        seen = {}
        checked = 0
        for _, case, reading in drawn_readings(392, 60, 5):
            journal = journal_of(reading)
            if not 2 <= len(journal) <= 4 or len(case[0]) * len(case[1].procedures) > 2 or checked > 3:
                continue
            checked += 1
            for number, changed in enumerate(mutants(journal)):
                kept = repr(changed)
                right = false_at(*case, changed)
                self.assertEqual(first_false(*case, changed), right, changed)
                self.assertEqual(repr(changed), kept)
                if right is None:
                    self.assertEqual(journal_of(replayed(*case, changed)), list(changed))
                elif number % 10 == 0:
                    caught(self, BadJournal, {"at": right}, replayed, *case, changed)
                    caught(self, BadJournal, {"at": right}, shortened, *case, changed)
                seen[right] = seen.get(right, 0) + 1
        self.assertGreater(len(seen), 3)

    def test_deeds_that_cannot_be_done(self):
        front = whole(*SIMPLE[:4])

        def entry(*deed):
            return (deed, 0, (0, 0), 0, front)

        for deed in [("keep",), ("drop",), ("undo",), ("read", "b"), ("read", "c"), ("read", None), ("read",), ("read", ("a",)), ("price", (2, 2)), ("price", None),
                     ("price",), ("price", [1, 1]), ("price", (True, 0)), ("begin", 0), ("begin",) * 2, (), "begin", None, ["begin"], ("Begin",), (("begin",),), 0]:
            self.assertEqual(first_false(*SIMPLE, [entry("begin"), (deed, 0, (0, 0), 0, front)] if deed != ("keep",) else [(deed, 0, (0, 0), 0, front)]),
                             1 if deed != ("keep",) else 0, deed)
        self.assertIsNone(first_false(*SIMPLE, [entry("begin"), entry("keep"), entry("price", (1, 1)), entry("begin")]))
        self.assertEqual(first_false(*SIMPLE, [entry("begin"), entry("keep"), entry("keep")]), 2)
        for at, wrong in [(1, False), (1, 1), (1, None), (1, "0"), (2, [0, 0]), (2, (0, False)), (2, (0,)), (2, None), (3, False), (3, 1), (3, None), (4, None)]:
            right = entry("begin")
            self.assertEqual(first_false(*SIMPLE, [right[:at] + (wrong,) + right[at + 1:]]), 0)
        for thing in any_values():
            self.assertEqual(first_false(*SIMPLE, thing), false_at(*SIMPLE, thing))

    def test_words_that_are_too_long(self):
        chain = Program({"f": ("either", (("then", (("read", "a"), ("call", "f"))), ("none",)))}, "f")
        case = (memory_of(43), chain, 0, tuple(range(43)), (1, 1))
        reading = Reading(*case)
        reading.read("a")
        journal = journal_of(reading)
        self.assertIsNone(first_false(*case, journal))
        more = journal + [(("read", "a"), 2, (2, -2), 0, journal[0][4])]
        self.assertEqual(first_false(*case, more), 1)

    def test_shortened(self):
        done = {}
        for drawing, case, reading in drawn_readings(393, 150, 12):
            shorter = shortened(*case, journal_of(reading))
            self.assertIsNone(first_false(*case, shorter))
            other = replayed(*case, shorter)
            for name in ("word", "state", "price", "paid", "paid_worth", "rest"):
                self.assertEqual(getattr(other, name)(), getattr(reading, name)(), name)
            deeds = [entry[0] for entry in shorter]
            price = case[4]
            right = []
            for deed in [deed for deed in reading.log() if deed[0] in ("read", "price")] + [None]:
                if deed is None or deed[0] == "read":
                    if right and right[-1][0] == "price" and right[-1][1] == price:
                        right.pop()
                    price = right[-1][1] if right and right[-1][0] == "price" else price
                    right += [deed] if deed else []
                else:
                    right = (right[:-1] if right and right[-1][0] == "price" else right) + [deed]
            self.assertEqual(deeds, right)
            self.assertEqual(shortened(*case, shorter), shorter)
            done[len(reading) - len(shorter)] = True
        self.assertGreater(len(done), 4)

    def test_prices_to_and_fro(self):
        reading = Reading(*SIMPLE)
        for price in ((1, 0), (0, 1), (1, 1)):
            reading.set_price(price)
        reading.read("a")
        reading.set_price((1, 1))
        reading.read("b")
        reading.set_price((1, 0))
        reading.begin()
        reading.set_price((2, 1))
        self.assertEqual([entry[0] for entry in shortened(*SIMPLE, journal_of(reading))], [("read", "a"), ("read", "b"), ("price", (2, 1))])

    def test_wrong_values(self):
        for thing in any_values():
            caught(self, BadReading, {}, journal_of, thing)
        wrong = wrong_values(("memory", "memory"), ("program", "letters"), ("start", "state"), ("goals", "goals"), ("price", "price"))
        wrong["journal"] = [(thing, BadJournal, {"at": 0}) for thing in any_values() if thing not in ([], ())]
        case = dict(zip(("memory", "program", "start", "goals", "price"), SIMPLE))
        for function in (replayed, shortened):
            refuses(self, function, {**case, "journal": []}, wrong)
        for name in case:
            for thing, error, attributes in wrong[name]:
                caught(self, error, attributes, first_false, **{**case, name: thing}, thing=None)
        silent = Program({"f": ("call", "f")}, "f")
        big = (memory_of(45), Program({"f": ("read", "a")}, "f"), 0, (0,), (1, 1))
        for function in (first_false, replayed, shortened):
            caught(self, NotOpen, {"at": None}, function, simple_memory(), silent, 0, (0,), (1, 1), None)
            caught(self, TooMany, {"most": 2000}, function, *big, None)


if __name__ == "__main__":
    unittest.main()
