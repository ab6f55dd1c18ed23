"""[122] locked, lock_cases; [123] packings, packed, packing_cases; with [3] and [5]."""

import unittest
from itertools import combinations, product

from drawing import NOT_NUMBERS, Drawing, any_values, both_ways, caught, numbers_beyond
from hitclocks.caches import cache
from hitclocks.choices import case_fronts, is_plan, plan
from hitclocks.errors import BadBack, BadLines, BadLot, BadNumber, BadPacking, BadProgram, BadRule, BadWays, NoLetter, TooMany
from hitclocks.fronts import at_price
from hitclocks.locks import lock_cases, locked, packed, packing_cases, packings
from hitclocks.memories import read
from hitclocks.programs import Program, letters_of
from hitclocks.sides import respelled
from hitclocks.stairs import best_at, stairs
from hitclocks.wholes import whole
from test_alike import words

RULES = ("last", "first")
BACKS = ("late", "once")


def reads(*letters):
    return Program({"f": ("then", tuple(("read", letter) for letter in letters[:8]))}, "f")


def paid_by_hand(rule, ways, back, lot, word):
    """What a cache that always holds a lot pays along a word, letter by letter."""
    row, total = [], [0, 0]
    for letter in word:
        line, written = letter.lower(), letter.isupper()
        if line in lot:
            total[1] += written and back == "once"
            continue
        known = [pair for pair in row if pair[0] == line]
        if not known:
            total[0] += 1
            row.insert(0, [line, False])
            if len(row) > ways - len(lot):
                total[1] += row.pop()[1]
        elif rule == "last":
            row.remove(known[0])
            row.insert(0, known[0])
        pair = [pair for pair in row if pair[0] == line][0]
        if written and back == "once":
            total[1] += 1
        elif written:
            pair[1] = True
    return tuple(total)


WRONG_CACHE = [(0, thing, BadRule) for thing in any_values() + ["Last", "late", ("last",)]]
WRONG_CACHE += [(1, thing, BadWays) for thing in NOT_NUMBERS + [0, 5, -1]]
WRONG_CACHE += [(2, thing, BadLines) for thing in NOT_NUMBERS + [0, 7, -1]]
WRONG_CACHE += [(3, thing, BadBack) for thing in any_values() + ["Late", "last", ("once",)]]


class Locked(unittest.TestCase):
    def test_nothing_locked(self):
        for rule, ways, lines, back in product(RULES, (1, 2), (1, 2, 3), BACKS):
            try:
                right = cache(rule, ways, lines, back)
            except TooMany:
                caught(self, TooMany, {"most": 40}, locked, rule, ways, lines, back, ())
                continue
            self.assertEqual(both_ways(self, locked, rule=rule, ways=ways, lines=lines, back=back, lot=()), right)

    def test_against_rows(self):
        drawing = Drawing(361)
        for rule, ways, lines, back in product(RULES, (2, 3, 4), (1, 2, 3, 4), BACKS):
            names = "abcdef"[:lines]
            for lot in [lot for many in range(1, ways) for lot in combinations(names, many)]:
                if ways - len(lot) > 1 and lines - len(lot) > 2:
                    continue
                memory = both_ways(self, locked, rule=rule, ways=ways, lines=lines, back=back, lot=lot)
                self.assertEqual(memory.letters, tuple(names.upper() + names))
                for _ in range(10):
                    word = tuple(drawing.pick(memory.letters) for _ in range(drawing.below(12)))
                    self.assertEqual(read(memory, 0, word)[1], paid_by_hand(rule, ways, back, lot, word))
                met = [0]
                for state, row in enumerate(memory.moves):
                    for letter, (place, a, b) in zip(memory.letters, row):
                        if letter.lower() in lot:
                            self.assertEqual((place, a, b), (state, 0, 1 if letter.isupper() and back == "once" else 0))
                        if place not in met:
                            self.assertEqual(place, len(met))
                            met.append(place)
                self.assertEqual(len(met), len(memory))

    def test_fact_without_the_locked_lines(self):
        drawing = Drawing(362)
        for _ in range(40):
            lot = drawing.pick([("a",), ("b",), ("c",)])
            memory = locked("last", 2, 3, "late", lot)
            program = drawing.program(1, 3, memory.letters)
            names = {}
            for line in "abc":
                if line not in lot:
                    names[line] = "ab"[len(names) // 2]
                    names[line.upper()] = names[line].upper()

            def without(body):
                if body[0] == "read":
                    return ("read", names[body[1]]) if body[1] in names else ("none",)
                if body[0] in ("then", "either"):
                    return (body[0], tuple(without(part) for part in body[1]))
                return body[:-1] + (without(body[-1]),) if body[0] in ("times", "any") else body

            other = Program({name: without(body) for name, body in program.procedures.items()}, "f")
            smaller = cache("last", 1, 2, "late")
            ends = tuple(range(len(smaller)))
            self.assertEqual(whole(memory, program, 0, tuple(range(len(memory)))), whole(smaller, other, 0, ends))

    def test_all_lines_locked(self):
        memory = locked("first", 3, 2, "once", ("a", "b"))
        self.assertEqual(memory.moves, (((0, 0, 1), (0, 0, 1), (0, 0, 0), (0, 0, 0)),))
        self.assertEqual(len(locked("last", 4, 3, "late", ("a", "b", "c"))), 1)

    def test_40_states_and_more(self):
        # With three of four ways locked one way is left, with 2 * 6 states and the empty one at most.
        self.assertEqual(len(locked("last", 4, 6, "late", ("a", "b", "c"))), 7)
        self.assertEqual(len(locked("first", 2, 6, "late", ("f",))), 11)
        for lot in ((), ("a",), ("a", "b")):
            caught(self, TooMany, {"most": 40}, locked, "last", 4, 6, "late", lot)
        caught(self, BadLot, {}, locked, "last", 4, 6, "late", ("a", "a"))
        # How many states there are counts for what is locked, not for the cache as it would be without that.
        caught(self, TooMany, {"most": 40}, cache, "last", 3, 4, "late")
        self.assertLessEqual(len(locked("last", 3, 3, "late", ("a",))), 40)

    def test_wrong_values(self):
        good = ["last", 2, 3, "late"]
        for at, thing, error in WRONG_CACHE:
            values = good[:at] + [thing] + good[at + 1:]
            caught(self, error, {}, locked, *values, None)
            caught(self, error, {}, lock_cases, *values, None, None)
        for lot in any_values() + [["a"], ("a", "a"), ("b", "a"), ("a", "b"), ("A",), ("d",), ("",), ("ab",), ("abc",), "a", ("a", 1), {"a": 1}]:
            if lot not in ((), ("a",)):
                caught(self, BadLot, {}, locked, *good, lot)
        caught(self, BadLot, {}, locked, "last", 1, 3, "late", ("a",))
        caught(self, BadLot, {}, locked, "last", 3, 2, "late", ("a", "c"))


class LockCases(unittest.TestCase):
    def test_cases(self):
        program = reads("a", "B", "c", "a")
        for rule, back, number in product(RULES, BACKS, (0, 1)):
            case = {"rule": rule, "ways": 2, "lines": 3, "back": back, "number": number, "program": program}
            found = both_ways(self, lock_cases, **case)
            lots = [()] + [(line,) for line in "abc"] * number
            self.assertEqual([lot for lot, _ in found], lots)
            for lot, (memory, same, start, goals) in found:
                self.assertEqual(memory, locked(rule, 2, 3, back, lot))
                self.assertEqual((same == program, start, goals), (True, 0, tuple(range(len(memory)))))
            fronts = case_fronts([one for _, one in found])
            self.assertEqual(fronts, [whole(*one) for _, one in found])
            self.assertEqual(stairs(fronts)[0][4], best_at(fronts, (1, 0)))
            self.assertIs(is_plan([one for _, one in found], (1, 1), plan([one for _, one in found], (1, 1))), True)

    def test_lots_in_order(self):
        found = lock_cases("last", 3, 2, "once", 2, reads("a"))
        self.assertEqual([lot for lot, _ in found], [(), ("a",), ("b",), ("a", "b")])
        self.assertEqual([lot for lot, _ in lock_cases("last", 4, 1, "once", 3, reads("a"))], [(), ("a",)])
        self.assertEqual([lot for lot, _ in lock_cases("last", 4, 2, "once", 0, reads("a"))], [()])
        self.assertEqual([lot for lot, _ in lock_cases("last", 1, 6, "late", 0, reads("f"))], [()])
        found.clear()
        self.assertEqual(len(lock_cases("last", 3, 2, "once", 2, reads("a"))), 4)

    def test_12_lots_and_more(self):
        # 4 lines and up to 2 of them are 11 lots, 5 lines are 16; up to 3 of 4 lines are 15.
        self.assertEqual(len(lock_cases("last", 3, 3, "once", 2, reads("a"))), 7)
        caught(self, TooMany, {"most": 40}, lock_cases, "last", 3, 4, "late", 2, reads("a"))
        caught(self, TooMany, {"most": 12}, lock_cases, "last", 3, 5, "late", 2, reads("a"))
        caught(self, TooMany, {"most": 12}, lock_cases, "last", 4, 4, "late", 3, reads("a"))
        caught(self, TooMany, {"most": 40}, lock_cases, "last", 4, 6, "late", 1, reads("a"))

    def test_wrong_values(self):
        for number, error, _ in numbers_beyond(0, 1):
            caught(self, error, {}, lock_cases, "last", 2, 2, "late", number, None)
        caught(self, BadNumber, {}, lock_cases, "last", 4, 6, "late", 4, None)
        for thing in any_values():
            if not isinstance(thing, Program):
                caught(self, BadProgram, {"part": None}, lock_cases, "last", 4, 6, "late", 3, thing)
        caught(self, NoLetter, {"letter": "C"}, lock_cases, "last", 4, 2, "late", 3, reads("a", "c", "C", "x"))
        caught(self, NoLetter, {"letter": "ab"}, lock_cases, "last", 4, 2, "late", 3, reads("a", "ab"))


def partings(things):
    """All ways to part things into lots: each thing to one of the lots ahead, or to a new one."""
    found = {()}
    for numbers in product(range(len(things)), repeat=len(things)):
        lots = [tuple(thing for thing, number in zip(things, numbers) if number == lot) for lot in range(len(things))]
        found.add(tuple(sorted(lot for lot in lots if lot)))
    return sorted(found - {()})


class Packings(unittest.TestCase):
    def test_against_all_partings(self):
        for things in [("a",), ("a", "b"), ("b", "x", "z"), ("a", "c", "d", "e"), ("a", "b", "c", "d", "e"), ("a", "b", "c", "d", "e", "f")]:
            every = partings(things)
            for room in range(1, 7):
                found = both_ways(self, packings, things=things, room=room)
                self.assertEqual(found, [packing for packing in every if all(len(lot) <= room for lot in packing)])
        self.assertEqual(len(packings(tuple("abcdef"), 6)), 203)
        self.assertEqual(packings(tuple("abcdef"), 1), [tuple((thing,) for thing in "abcdef")])

    def test_wrong_values(self):
        for thing in any_values() + [["a"], ("b", "a"), ("a", "a"), ("A",), ("ab",), ("",), ("1",), tuple("abcdefg"), "ab", ("a", 1), ("a.",)]:
            if thing not in (("a",), ("a", "b"), ("f",)):
                caught(self, BadLot, {}, packings, thing, 2)
                caught(self, BadLot, {}, packings, thing, None)
        for room, error, _ in numbers_beyond(1, 6):
            caught(self, error, {}, packings, ("a",), room)


class Packed(unittest.TestCase):
    def test_lines(self):
        program = reads("x", "A", "m", "X", "a")
        self.assertEqual(both_ways(self, packed, program=program, packing=(("a",), ("m", "x"))), reads("b", "A", "b", "B", "a"))
        self.assertEqual(packed(program, (("a", "m", "x"),)), reads("a", "A", "a", "A", "a"))
        self.assertEqual(packed(program, (("a",), ("m",), ("x",))), reads("c", "A", "b", "C", "a"))
        six = reads("a", "b", "C", "d", "E", "z")
        self.assertEqual(packed(six, tuple((thing,) for thing in "abcdez")), reads("a", "b", "C", "d", "E", "f"))

    def test_drawn(self):
        drawing = Drawing(363)
        for _ in range(40):
            program = drawing.program(2, 3, ("a", "Q", "q", "Z"))
            things = tuple(sorted({letter.lower() for letter in letters_of(program)}))
            for packing in packings(things, 6) if things else []:
                names = {}
                for number, lot in enumerate(packing):
                    for thing in lot:
                        names.update({thing: "abc"[number], thing.upper(): "ABC"[number]})
                right = respelled(program, {letter: names[letter] for letter in letters_of(program)})
                self.assertEqual(packed(program, packing), right)
            if not things:
                caught(self, BadPacking, {}, packed, program, ())

    def test_wrong_values(self):
        program = reads("a", "B")
        for thing in any_values():
            if not isinstance(thing, Program):
                caught(self, BadProgram, {"part": None}, packed, thing, None)
        for packing in any_values() + [(("a",),), (("b",), ("a",)), (("a", "b"), ()), ((), ("a", "b")), (("b", "a"),), (("a",), ("B",)), (["a"], ("b",)),
                                       [("a",), ("b",)], (("a",), ("b",), ("c",)), (("a", "a", "b"),), ("ab",), ("a", "b"), (("ab",),), (("a",), ("b",), ())]:
            caught(self, BadPacking, {}, packed, program, packing)
        packed(program, (("a",), ("b",)))
        packed(program, (("a", "b"),))
        for letters in [("ab",), ("a", "1"), ("a", "."), ("aa", "b")]:
            caught(self, BadPacking, {}, packed, reads(*letters), (("a",),))
        caught(self, BadPacking, {}, packed, reads(), ())
        caught(self, BadPacking, {}, packed, reads(*"abcdefg"), tuple((thing,) for thing in "abcdefg"))


class PackingCases(unittest.TestCase):
    def test_cases(self):
        program = reads("x", "A", "m", "x")
        for rule, back, room in product(RULES, BACKS, (1, 2, 3)):
            case = {"rule": rule, "ways": 2, "back": back, "program": program, "room": room}
            found = both_ways(self, packing_cases, **case)
            self.assertEqual([packing for packing, _ in found], packings(("a", "m", "x"), room))
            for packing, (memory, other, start, goals) in found:
                self.assertEqual(memory, cache(rule, 2, len(packing), back))
                self.assertEqual(other, packed(program, packing))
                self.assertEqual((start, goals), (0, tuple(range(len(memory)))))
            fronts = case_fronts([one for _, one in found])
            for price in [(1, 0), (1, 1), (0, 1)]:
                index = plan([one for _, one in found], price)[0]
                self.assertEqual(at_price(fronts[index], price), min(at_price(front, price) for front in fronts))

    def test_all_share_one_line(self):
        for some in [("a", "b"), ("x",), ("A", "q", "Q")]:
            found = packing_cases("last", 1, "late", reads(*some), 6)
            memory, program, start, goals = dict(found)[(tuple(sorted({letter.lower() for letter in some})),)]
            self.assertEqual(whole(memory, program, start, goals), whole(cache("last", 1, 1, "late"), reads("a"), 0, (0, 1, 2)))
            for word in words(("A", "a"), 4)[1:]:
                self.assertEqual(read(memory, 0, word)[1], (1, 0))

    def test_12_packings_and_more(self):
        # 4 things by twos are 10 packings, 15 in all; 5 things by ones are one packing.
        self.assertEqual(len(packing_cases("last", 1, "late", reads(*"abcd"), 2)), 10)
        self.assertEqual(len(packing_cases("first", 1, "late", reads(*"abcdef"), 1)), 1)
        caught(self, TooMany, {"most": 12}, packing_cases, "last", 1, "late", reads(*"abcd"), 3)
        caught(self, TooMany, {"most": 12}, packing_cases, "last", 4, "late", reads(*"abcdef"), 2)
        caught(self, TooMany, {"most": 40}, packing_cases, "last", 4, "late", reads(*"abcdef"), 1)
        found = packing_cases("last", 1, "late", reads("a"), 1)
        found.clear()
        self.assertEqual(len(packing_cases("last", 1, "late", reads("a"), 1)), 1)

    def test_wrong_values(self):
        good = {"rule": "last", "ways": 2, "back": "late", "program": reads("a"), "room": 1}
        for name, at in (("rule", 0), ("ways", 1), ("back", 3)):
            for place, thing, error in WRONG_CACHE:
                if place == at:
                    caught(self, error, {}, packing_cases, **{**good, name: thing})
                    caught(self, error, {}, packing_cases, **{**{**good, "program": None, "room": None}, name: thing})
        for thing in any_values():
            if not isinstance(thing, Program):
                caught(self, BadProgram, {"part": None}, packing_cases, "last", 2, "late", thing, None)
        for program in (reads(), reads("ab"), reads("1"), reads(*"abcdefg"), reads("a", "x1")):
            caught(self, BadPacking, {}, packing_cases, "last", 2, "late", program, None)
        for room, error, _ in numbers_beyond(1, 6):
            caught(self, error, {}, packing_cases, "last", 4, "late", reads(*"abcdef"), room)


if __name__ == "__main__":
    unittest.main()
