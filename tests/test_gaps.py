"""[80] put_in, taken_out, with [3]."""

import unittest

from drawing import Drawing, any_values, both_ways, caught, refuses
from hitclocks.errors import BadBreaks, BadPieces, BadWord
from hitclocks.gaps import put_in, taken_out

WORD = ("a", "b", "c")


def wrong_words():
    return [(thing, BadWord, {}) for thing in any_values() if not is_word(thing)] + [
        (thing, BadWord, {}) for thing in [["a"], ("a", ""), ("a_",), ("a" * 13,), ("a", None), ("a", ("b",)), "ab", ("\u00e4",)]]


def is_word(thing):
    signs = "ABCDEFGHIJKLMNOPQRSTUVWXYZabcdefghijklmnopqrstuvwxyz0123456789."
    return type(thing) is tuple and all(type(letter) is str and 1 <= len(letter) <= 12 and set(letter) <= set(signs) for letter in thing)


class PutIn(unittest.TestCase):
    def test_by_hand(self):
        self.assertEqual(both_ways(self, put_in, word=("a", "b"), breaks=[(1, ("x",)), (1, ("y",)), (2, ())]), ("a", "x", "y", "b"))
        for breaks, right in [([], WORD), ((), WORD), ([(0, ("x", "y"))], ("x", "y") + WORD), ([(3, ("x",))], WORD + ("x",)),
                              ([(0, ()), (3, ())], WORD), (((0, ("z.9Z",)), (0, ("a",)), (3, ("b",))), ("z.9Z", "a") + WORD + ("b",)),
                              ([(3, ("x",)), (3, ("y",))], WORD + ("x", "y")), ([(1, ("b", "b")), (2, ("a",))], ("a", "b", "b", "b", "a", "c"))]:
            kept = repr(breaks)
            self.assertEqual(put_in(WORD, breaks), right)
            self.assertEqual(repr(breaks), kept)
        self.assertEqual(put_in((), [(0, ("x",)), (0, ())]), ("x",))

    def test_wrong_values(self):
        right = (1, ("x",))
        items = [None, True, 1, (), (1,), [1, ("x",)], (1, ["x"]), (1, "x"), (1, ("",)), (1, ("x", 1)), (True, ("x",)), (False, ()),
                 ("1", ("x",)), (-1, ("x",)), (4, ("x",)), (0, ("x",)), (1, ("x",), 0), (10 ** 12, ()), (None, ()), {}]
        wrong = [(thing, BadBreaks, {"at": None}) for thing in [None, True, 1, "ab", {}, {0: ()}]]
        wrong += [([right, thing, None], BadBreaks, {"at": 1}) for thing in items] + [((right, thing), BadBreaks, {"at": 1}) for thing in items]
        wrong += [([(2, ()), (1, ())], BadBreaks, {"at": 1}), ([(4, ())], BadBreaks, {"at": 0}), ([(3, ()), (3, ()), (2, ())], BadBreaks, {"at": 2})]
        refuses(self, put_in, {"word": WORD, "breaks": [right]}, {"word": wrong_words(), "breaks": wrong})


class TakenOut(unittest.TestCase):
    def test_by_hand(self):
        case = {"word": ("a", "x", "y", "b"), "pieces": [(1, 1), (2, 1)]}
        self.assertEqual(both_ways(self, taken_out, **case), (("a", "b"), [(1, ("x",)), (1, ("y",))]))
        for pieces, right in [([], (WORD, [])), (((0, 3),), ((), [(0, WORD)])), ([(3, 0)], (WORD, [(3, ())])),
                              ([(0, 0), (0, 1), (1, 0), (2, 1)], (("b",), [(0, ()), (0, ("a",)), (0, ()), (1, ("c",))])),
                              ([(1, 2), (3, 0)], (("a",), [(1, ("b", "c")), (1, ())]))]:
            kept = repr(pieces)
            self.assertEqual(taken_out(WORD, pieces), right)
            self.assertEqual(repr(pieces), kept)
        self.assertEqual(taken_out((), [(0, 0)]), ((), [(0, ())]))
        breaks = taken_out(WORD, [(1, 1)])[1]
        breaks.clear()
        self.assertEqual(taken_out(WORD, [(1, 1)]), (("a", "c"), [(1, ("b",))]))

    def test_wrong_values(self):
        items = [None, True, 1, (), (1,), [1, 1], (1, 1, 0), (True, 1), (1, True), (False, 0), (-1, 1), (1, -1), (0, 0), (0, 2), (1, 3), (4, 0),
                 (3, 1), ("1", 1), (1, None), (1, ("b",)), {}, (10 ** 12, 0)]
        wrong = [(thing, BadPieces, {"at": None}) for thing in [None, True, 1, "ab", {}, {0: 0}]]
        wrong += [([(0, 1), thing, None], BadPieces, {"at": 1}) for thing in items if thing != (1, 1)]
        wrong += [(((0, 1), thing), BadPieces, {"at": 1}) for thing in items]
        wrong += [([(2, 1), (1, 1)], BadPieces, {"at": 1}), ([(0, 4)], BadPieces, {"at": 0}), ([(0, 2), (1, 0)], BadPieces, {"at": 1})]
        refuses(self, taken_out, {"word": WORD, "pieces": [(1, 1)]}, {"word": wrong_words(), "pieces": wrong})

    def test_put_back(self):
        drawing = Drawing(161)
        for _ in range(200):
            word = tuple(drawing.pick(("a", "b", "x")) for _ in range(drawing.below(9)))
            pieces, ahead = [], 0
            for _ in range(drawing.below(5)):
                start = drawing.between(ahead, len(word))
                pieces.append((start, drawing.between(0, len(word) - start)))
                ahead = sum(pieces[-1])
            rest, breaks = taken_out(word, pieces)
            self.assertEqual(put_in(rest, breaks), word)
            self.assertEqual([letters for _, letters in breaks], [word[start:start + length] for start, length in pieces])
            self.assertEqual(len(rest), len(word) - sum(length for _, length in pieces))
            self.assertEqual(taken_out(word, tuple(pieces)), (rest, breaks))
        caught(self, BadWord, {}, put_in, ["a"], None)


if __name__ == "__main__":
    unittest.main()
