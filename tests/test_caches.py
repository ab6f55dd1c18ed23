"""[21] caches, with [3]."""

import unittest

from drawing import Drawing, any_values, both_ways, caught
from hitclocks.caches import cache, held
from hitclocks.errors import BadBack, BadLines, BadRule, BadState, BadWays, TooMany
from hitclocks.memories import read, stepped

KINDS = [(rule, ways, lines, back) for rule in ("last", "first") for ways in range(1, 5) for lines in range(1, 7)
         for back in ("late", "once")]


def answered(rule, ways, back, row, letter):
    """What a cache does, on a list of [line, dirty]: the new list and the pair."""
    row = [list(pair) for pair in row]
    line, written = letter.lower(), letter.isupper()
    a = b = 0
    lines = [pair[0] for pair in row]
    if line in lines:
        if rule == "last":
            row.insert(0, row.pop(lines.index(line)))
    else:
        a = 1
        row.insert(0, [line, False])
        if len(row) > ways:
            b += row.pop()[1]
    if written and back == "once":
        b += 1
    if written and back == "late":
        [pair for pair in row if pair[0] == line][0][1] = True
    return tuple(tuple(pair) for pair in row), (a, b)


def rows_of(rule, ways, lines, back):
    """All rows, in the order in which they are met; None if there are more than 40."""
    letters = "ABCDEF"[:lines] + "abcdef"[:lines]
    rows = [()]
    for row in rows:
        for letter in letters:
            after = answered(rule, ways, back, row, letter)[0]
            if after not in rows:
                rows.append(after)
        if len(rows) > 40:
            return None
    return rows


class Caches(unittest.TestCase):
    def test_example(self):
        memory = both_ways(self, cache, rule="last", ways=1, lines=2, back="late")
        self.assertEqual(memory.letters, ("A", "B", "a", "b"))
        self.assertEqual([stepped(memory, 0, letter)[0] for letter in memory.letters], [1, 2, 3, 4])
        rows = [held("last", 1, 2, "late", state) for state in range(5)]
        self.assertEqual(rows, [(), (("a", True),), (("b", True),), (("a", False),), (("b", False),)])
        self.assertEqual((stepped(memory, 1, "b")[1], stepped(memory, 3, "b")[1]), ((1, 1), (1, 0)))
        self.assertEqual(both_ways(self, held, rule="last", ways=1, lines=2, back="late", state=4), (("b", False),))

    def test_all_kinds(self):
        large = 0
        for rule, ways, lines, back in KINDS:
            rows = rows_of(rule, ways, lines, back)
            if rows is None:
                large += 1
                caught(self, TooMany, {"most": 40}, cache, rule, ways, lines, back)
                caught(self, TooMany, {"most": 40}, held, rule, ways, lines, back, "x")
                continue
            memory = cache(rule, ways, lines, back)
            self.assertEqual(len(memory), len(rows))
            for state, row in enumerate(rows):
                self.assertEqual(held(rule, ways, lines, back, state), row)
                for letter in memory.letters:
                    after, pair = answered(rule, ways, back, row, letter)
                    self.assertEqual(stepped(memory, state, letter), (rows.index(after), pair))
        self.assertGreater(large, 10)

    def test_by_hand(self):
        memory = cache("last", 2, 3, "late")
        self.assertEqual(read(memory, 0, ("A", "b", "a", "c", "B"))[1], (4, 1))
        self.assertEqual(read(memory, 0, ("A", "b", "c"))[1], (3, 1))
        self.assertEqual(read(cache("first", 2, 3, "late"), 0, ("A", "b", "a", "c"))[1], (3, 1))
        self.assertEqual(read(cache("last", 2, 3, "once"), 0, ("A", "A", "b", "c"))[1], (3, 2))

    def test_one_way_is_one_memory(self):
        for lines in range(1, 7):
            for back in ("late", "once"):
                self.assertEqual(cache("last", 1, lines, back), cache("first", 1, lines, back))

    def test_what_words_cost(self):
        drawing = Drawing(31)
        for rule, ways, lines, back in KINDS:
            if rows_of(rule, ways, lines, back) is None:
                continue
            memory = cache(rule, ways, lines, back)
            for _ in range(5):
                word = tuple(drawing.pick(memory.letters) for _ in range(drawing.below(30)))
                state, (a, b) = read(memory, 0, word)
                brought, row = 0, ()
                for letter in word:
                    row, pair = answered(rule, ways, back, row, letter)
                    brought += pair[0]
                self.assertEqual((a, held(rule, ways, lines, back, state)), (brought, row))
                written = len([letter for letter in word if letter.isupper()])
                self.assertTrue(b == written if back == "once" else b <= written)

    def test_wrong_parameters(self):
        for wrong in ["", "Last", None, 0, ("last",), ["last"], True]:
            caught(self, BadRule, {}, cache, wrong, 0, 0, 0)
            caught(self, BadRule, {}, held, wrong, 0, 0, 0, 0)
        for wrong in [0, 5, True, None, "1", (1,)]:
            caught(self, BadWays, {}, cache, "last", wrong, 0, 0)
            caught(self, BadWays, {}, held, "last", wrong, 0, 0, 0)
        for wrong in [0, 7, True, None, "1", [1]]:
            caught(self, BadLines, {}, cache, "last", 4, wrong, 0)
            caught(self, BadLines, {}, held, "last", 4, wrong, 0, 0)
        for wrong in ["never", None, 1, ("late",), {}]:
            caught(self, BadBack, {}, cache, "last", 4, 6, wrong)
            caught(self, BadBack, {}, held, "last", 4, 6, wrong, 0)

    def test_wrong_states(self):
        for wrong in [-1, 5, True, None, "0", (0,)]:
            caught(self, BadState, {}, held, "last", 1, 2, "late", wrong)
        for thing in any_values():
            if thing in (0, 1) and thing is not True and thing is not False:
                self.assertEqual(len(held("last", 1, 2, "late", thing)), thing)
            else:
                caught(self, BadState, {}, held, "last", 1, 2, "late", thing)


if __name__ == "__main__":
    unittest.main()
