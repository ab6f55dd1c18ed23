"""[130] means, [131] laps and mean papers, [132] mean fronts, [133] mean showings; with [3], [4], [5] and [70]."""

import unittest
from fractions import Fraction
from math import gcd

from drawing import Drawing, any_values, both_ways, caught, program_of_heads, refuses, simple_memory, simple_program, some_prices, wrong_values
from hitclocks.dearest import most_at
from hitclocks.errors import BadLap, BadMean, BadMeans, BadPaper, TooMany
from hitclocks.fronts import at_price
from hitclocks.laps import is_lap, is_mean_paper, lap_at, mean_of, mean_paper, shown_margin
from hitclocks.lengths import longest, tallied
from hitclocks.means import margin_at, margin_tale, mean_at
from hitclocks.meanshows import is_mean_front, is_mean_showing, mean_front, mean_prices, mean_showing, mean_worth, no_gain
from hitclocks.memories import Memory, read
from hitclocks.papers import paper
from hitclocks.prices import amid, meeting, worth
from hitclocks.programs import Program
from hitclocks.tales import is_tale, length_of, told
from hitclocks.wholes import whole
from reference import INFINITE, Wrong, entry_runs, mutants, need, words_up_to, worths
from reference import is_paper as is_paper_by_words
from test_at_a_price import PRICES, drawn_cases, memory_of
from test_at_all_prices import pair_of_run

A = ("read", "a")
B = ("read", "b")
G = Program({"g": ("then", (("any", A), ("any", B), B))}, "g")
SHORT = Program({"f": ("either", (A, ("then", (B, A))))}, "f")
SILENT = Program({"f": ("call", "f"), "g": ("any", A)}, "f")


def margin_step(mean):
    return lambda price, a, b: mean[1] * (price[0] * a + price[1] * b) - mean[0]


def most_by(memory, program, start, goals, price, step):
    """The greatest sum of a run when letters pay so; None without runs, INFINITE without a bound."""
    table = worths(memory, program, price, step)[(program.first,)]
    return max([table[(start, goal)] for goal in goals if (start, goal) in table], default=None)


def lap_mean(memory, program, start, goals, thing):
    """The mean of what may be a lap; None if it is none."""
    try:
        need(type(thing) is tuple and len(thing) == 3)
        way, lap, rest = [entry_runs(memory, program, tale, gap) for tale, gap in zip(thing, (True, True, False))]
        need(len(way) > 1 and len(lap) > 1 and way[0] == lap[0])
        need(lap[-1][:3] == lap[0][:3] and lap[-1][5] == 1 and rest[-1][:3] == lap[0][:3])
        need(way[-1][:2] == ((program.first,), start) and way[-1][2] in goals and way[-1][5] > 0)
        length = len(lap[-1][6])
        need(length > 0)
    except Wrong:
        return None
    common = gcd(lap[-1][3], lap[-1][4], length)
    return (lap[-1][3] // common, lap[-1][4] // common, length // common)


def value(corner, price):
    return Fraction(price[0] * corner[0] + price[1] * corner[1], corner[2])


def is_front_by_words(thing):
    if thing is None or type(thing) is str and thing == "short":
        return True
    if type(thing) is not tuple or not thing:
        return False
    for corner in thing:
        if type(corner) is not tuple or len(corner) != 3 or any(type(number) is not int for number in corner):
            return False
        if corner[2] < 1 or gcd(*corner) != 1:
            return False
    scaled = [[corner[at] * other[2] for at in (0, 1)] for corner in thing for other in thing]
    meets = {(1, 0), (0, 1)}
    for one in thing:
        for other in thing:
            price = meeting((one[0] * other[2], one[1] * other[2]), (other[0] * one[2], other[1] * one[2]))
            meets |= {price} - {None}
    ordered = sorted(meets, key=lambda price: Fraction(price[1], sum(price)))
    between = [amid(one, other) for one, other in zip(ordered, ordered[1:])]
    best = []
    for price in between:
        most = max(value(corner, price) for corner in thing)
        best.append([at for at, corner in enumerate(thing) if value(corner, price) == most])
    alone = [row[0] for row in best if len(row) == 1]
    return bool(scaled) and [at for number, at in enumerate(alone) if number == 0 or alone[number - 1] != at] == list(range(len(thing)))


class Means(unittest.TestCase):
    def judge(self, memory, program, start, goals, price):
        """What is told at a price is what the reference says; returns the mean."""
        case = {"memory": memory, "program": program, "start": start, "goals": goals, "price": price}
        mean = both_ways(self, mean_at, **case)
        margin, tale = both_ways(self, margin_at, **case), both_ways(self, margin_tale, **case)
        lap, shown = both_ways(self, lap_at, **case), both_ways(self, mean_paper, **case)
        lengths = most_by(memory, program, start, goals, price, lambda price, a, b: 1)
        if lengths is None or lengths != INFINITE:
            self.assertEqual(mean, None if lengths is None else "short")
            self.assertEqual((margin, tale, lap, shown), (None, None, None, None))
            return mean
        number, many = mean
        self.assertTrue(type(mean) is tuple and many >= 1 and gcd(number, many) == 1)
        self.assertEqual(most_by(memory, program, start, goals, price, margin_step(mean)), margin)
        self.assertEqual(most_by(memory, program, start, goals, price, margin_step((10 ** 6 * number - 1, 10 ** 6 * many))), INFINITE)
        self.assertIs(most_at(memory, program, start, goals, price) == "endless", number > 0)
        # A tale meets the margin.
        self.assertIs(is_tale(memory, program, tale), True)
        pair = pair_of_run(memory, program, start, goals, tale)
        self.assertEqual(many * worth(pair, price) - number * length_of(memory, program, tale), margin)
        # A lap and a paper meet.
        corner = both_ways(self, mean_of, **{name: case[name] for name in case if name != "price"}, lap=lap)
        self.assertEqual(corner, lap_mean(memory, program, start, goals, lap))
        self.assertEqual(value(corner, price), Fraction(number, many))
        self.assertIs(both_ways(self, is_lap, **{name: case[name] for name in case if name != "price"}, thing=lap), True)
        self.assertIs(both_ways(self, is_mean_paper, memory=memory, program=program, price=price, mean=mean, thing=shown), True)
        self.assertIs(is_paper_by_words(memory, program, price, shown, margin_step(mean)), True)
        self.assertEqual(both_ways(self, shown_margin, **case, mean=mean, paper=shown), margin)
        self.assertEqual(list(shown[1]), sorted(shown[1]))
        return mean

    def test_by_hand(self):
        memory, program = simple_memory(), simple_program()
        for price, right, margin in [((1, 0), (1, 1), 0), ((2, 3), (-5, 2), 0), ((3, 2), (0, 1), 0), ((0, 1), (-3, 2), 0)]:
            self.assertEqual(self.judge(memory, program, 0, (0,), price), right)
            self.assertEqual(margin_at(memory, program, 0, (0,), price), margin)
        for price, right, margin in [((0, 1), (0, 1), -3), ((1, 0), (2, 1), -2), ((1, 1), (2, 1), -5)]:
            self.assertEqual(self.judge(memory, G, 0, (0,), price), right)
            self.assertEqual(margin_at(memory, G, 0, (0,), price), margin)
        self.assertEqual(self.judge(memory, SHORT, 0, (0,), (1, 1)), "short")
        self.assertIsNone(self.judge(memory, SILENT, 0, (0,), (1, 1)))
        # Rounds without letters have no mean.
        empty = Program({"f": ("either", (("any", ("none",)), ("then", (("call", "f"), ("call", "f")))))}, "f")
        self.assertEqual(self.judge(memory, empty, 0, (0,), (1, 1)), "short")
        both = Program({"f": ("either", (("any", ("either", (("none",), B))), ("then", (("call", "f"), ("call", "f")))))}, "f")
        self.assertEqual(self.judge(memory, both, 0, (0,), (1, 1)), (-3, 1))

    def test_drawn(self):
        kinds = {}
        for drawing, memory, program, start, goals in drawn_cases(371, 130, 3, 3):
            for price in (drawing.price(), drawing.price()):
                mean = self.judge(memory, program, start, goals, price)
                kind = mean if mean in (None, "short") else (mean[0] > 0) - (mean[0] < 0)
                kinds[kind] = kinds.get(kind, 0) + 1
        self.assertEqual(set(kinds), {None, "short", -1, 0, 1})
        self.assertGreater(min(kinds.values()), 5)

    def test_short_runs(self):
        for drawing, memory, program, start, goals in drawn_cases(372, 60, 2, 3):
            price = drawing.price()
            mean, margin = mean_at(memory, program, start, goals, price), margin_at(memory, program, start, goals, price)
            runs = [(word, read(memory, start, word)) for word in words_up_to(program, 6)[program.first]]
            runs = [(word, pair) for word, (end, pair) in runs if end in goals]
            if mean is None:
                self.assertEqual(runs, [])
            elif mean != "short":
                for word, pair in runs:
                    self.assertLessEqual(mean[1] * worth(pair, price), mean[0] * len(word) + margin)

    def test_either_of_calls(self):
        ranks = {None: (0,), "short": (1,)}
        for drawing, memory, program, start, goals in drawn_cases(373, 60, 2, 2):
            price = drawing.price()
            names = list(program.procedures)
            together = Program({**program.procedures, "zz": ("either", tuple(("call", name) for name in names))}, "zz")
            means = [mean_at(memory, Program(program.procedures, name), start, goals, price) for name in names]
            best = max(means, key=lambda mean: ranks.get(mean, None) or (2, Fraction(*mean)))
            self.assertEqual(mean_at(memory, together, start, goals, price), best)

    def test_long_rounds(self):
        names = ["p" + str(number) for number in range(40)]
        procedures = {name: ("then", (("call", after),) * 3) for name, after in zip(names, names[1:])}
        procedures["p39"] = ("either", (A, ("then", (B, B, B, A))))
        procedures["q"] = ("any", ("then", (("call", "p0"), B)))
        program = Program(procedures, "q")
        many = 3 ** 39
        # Of the letters of p0 a part of 3 in 4 can be b, so that (0, -3) counts less at (0, 1).
        self.assertEqual(Fraction(*mean_at(simple_memory(), program, 0, (0,), (1, 0))), Fraction(2 * many, many + 1))
        self.assertEqual(Fraction(*mean_at(simple_memory(), program, 0, (0,), (0, 1))), Fraction(-3, many + 1))
        lap = lap_at(simple_memory(), program, 0, (0,), (1, 0))
        self.assertEqual(mean_of(simple_memory(), program, 0, (0,), lap), (2 * many, -3, many + 1))
        shown = mean_showing(simple_memory(), program, 0, (0,))
        self.assertIs(is_mean_showing(simple_memory(), program, 0, (0,), shown), True)

    def test_climbing_over_many_rounds(self):
        letters = tuple("abcdefghijklmnopqrstuvwxyz")
        memory = Memory(letters, (tuple((0, (at * 7) % 26, (at * 11) % 26) for at in range(26)),))
        program = Program({"f": ("any", ("either", tuple(("call", "g" + str(at)) for at in range(5)))), **{
            "g" + str(at): ("either", tuple(("then", (("read", letter),) * (1 + at)) for letter in letters[at * 6:at * 6 + 6])) for at in range(5)}}, "f")
        for price in PRICES + [(10 ** 12 - 1, 10 ** 12 - 2)]:
            right = max(worth((a, b), price) for _, a, b in memory.moves[0])
            self.assertEqual(mean_at(memory, program, 0, (0,), price), (right, 1))


class Laps(unittest.TestCase):
    def judge(self, memory, program, start, goals, thing):
        right = lap_mean(memory, program, start, goals, thing)
        kept = repr(thing)
        self.assertIs(is_lap(memory, program, start, goals, thing), right is not None, thing)
        self.assertEqual(repr(thing), kept)
        if right is None:
            caught(self, BadLap, {}, mean_of, memory, program, start, goals, thing)
        else:
            self.assertEqual(mean_of(memory, program, start, goals, thing), right)
        return right is not None

    def test_one_thing_otherwise(self):
        judged = {True: 0, False: 0}
        two = Memory(("a", "b"), (((1, 2, 0), (0, 0, -3)), ((0, 4, 2), (1, 1, 1))))
        for memory, program, goals in [(simple_memory(), simple_program(), (0,)), (two, G, (0, 1))]:
            thing = lap_at(memory, program, 0, goals, (1, 1))
            for changed in mutants(thing):
                judged[self.judge(memory, program, 0, goals, changed)] += 1
        self.assertGreater(min(judged.values()), 5)
        for thing in any_values():
            self.assertIs(self.judge(simple_memory(), simple_program(), 0, (0,), thing), False)

    def test_by_hand(self):
        gap = ("gap", ("f",), 0, 0)
        once = (gap, (("f",), 0, ("either", 0, ("then", (("read",), ("call", 0), ("read",))))))
        rest = ((("f",), 0, ("either", 1, ("none",))),)
        memory, program = simple_memory(), simple_program()
        self.assertEqual(mean_of(memory, program, 0, (0,), (once, once, rest)), (2, -3, 2))
        twice = once + ((("f",), 0, ("either", 0, ("then", (("read",), ("call", 1), ("read",))))),)
        self.assertEqual(mean_of(memory, program, 0, (0,), (once, twice, rest)), (2, -3, 2))
        # A round without letters, and one that is none.
        loop = Program({"f": ("either", (("call", "f"), ("none",)))}, "f")
        still = (gap, (("f",), 0, ("either", 0, ("call", 0))))
        self.assertIs(self.judge(memory, loop, 0, (0,), (still, still, rest)), False)
        self.assertIs(self.judge(memory, program, 0, (0,), (once, (gap,), rest)), False)
        self.assertIs(self.judge(memory, program, 0, (0,), [once, once, rest]), False)

    def test_drawn_papers(self):
        judged = {True: 0, False: 0}
        shown_kinds = {}
        for drawing, memory, program, start, goals in drawn_cases(374, 100, 2, 2):
            price = drawing.price()
            mean = mean_at(memory, program, start, goals, price)
            known = mean_paper(memory, program, start, goals, price) or paper(tallied(memory), program, start, goals, (1, 0))
            for _ in range(6):
                asked = mean if mean not in (None, "short") and drawing.below(2) else (drawing.between(-9, 9), 1)
                thing = (known[0], {triple: number + drawing.below(3) // 2 - drawing.below(12) // 11 for triple, number in known[1].items()})
                right = is_paper_by_words(memory, program, price, thing, margin_step(asked))
                self.assertIs(is_mean_paper(memory, program, price, asked, thing), right)
                judged[right] += 1
                if not right:
                    caught(self, BadPaper, {}, shown_margin, memory, program, start, goals, price, asked, thing)
                    continue
                shown = shown_margin(memory, program, start, goals, price, asked, thing)
                if shown != "open" and mean not in (None, "short"):
                    self.assertLessEqual(Fraction(*mean), Fraction(*asked))
                    if mean == asked:
                        self.assertGreaterEqual(shown, margin_at(memory, program, start, goals, price))
                shown_kinds[shown if shown in (None, "open") else 0] = True
        self.assertGreater(min(judged.values()), 40)
        self.assertGreater(len(shown_kinds), 1)

    def test_papers_otherwise(self):
        judged = {True: 0, False: 0}
        thing = mean_paper(simple_memory(), G, 0, (0,), (1, 1))
        for changed in mutants(thing):
            kept = repr(changed)
            right = is_paper_by_words(simple_memory(), G, (1, 1), changed, margin_step((2, 1)))
            self.assertIs(is_mean_paper(simple_memory(), G, (1, 1), (2, 1), changed), right, changed)
            self.assertEqual(repr(changed), kept)
            judged[right] += 1
        self.assertGreater(min(judged.values()), 5)
        for changed in any_values():
            self.assertIs(is_mean_paper(simple_memory(), G, (1, 1), (2, 1), changed), changed == ((), {}))


class MeanFronts(unittest.TestCase):
    def test_is_mean_front(self):
        for thing in any_values() + [(), ((1, 1),), ((1, 0, 1),), [(1, 0, 1)], ((1, 0, True),), ((2, 0, 2),), ((0, 0, 2),), ((0, 0, 1),), ((3, 0, 2),), ((1, 0, 0),),
                                     ((1, 0, -1),), ((1, 0, 1), (0, 1, 1)), ((0, 1, 1), (1, 0, 1)), ((1, 0, 1), (1, 0, 1)), ((1, 0, 1), (0, 0, 1), (0, 1, 1)),
                                     ((3, 0, 1), (2, 2, 1), (0, 3, 1)), ((2, 0, 1), (1, 1, 1), (0, 2, 1)), ((3, 0, 2), (1, 1, 1), (0, 3, 2)), ((1, 0, 1), (1, 1, 1)),
                                     ((3, 0, 2), (4, 4, 5), (0, 3, 2)), ((1, 1, 1), (0, 1, 1)), ((1, 0, 1), [0, 1, 1]), "Short", "endless", ("short",)]:
            self.assertIs(is_mean_front(thing), is_front_by_words(thing), thing)
        judged = {True: 0, False: 0}
        drawing = Drawing(375)
        for _ in range(800):
            found = {}
            for _ in range(1 + drawing.below(4)):
                a, b, many = drawing.between(-4, 6), drawing.between(-4, 6), 1 + drawing.below(3)
                common = gcd(a, b, many)
                found[Fraction(a, many)] = (a // common, b // common, many // common)
            thing = tuple(found[key] for key in sorted(found, reverse=True))
            self.assertIs(is_mean_front(thing), is_front_by_words(thing), thing)
            judged[is_mean_front(thing)] += 1
            for changed in mutants(thing) if len(thing) == 2 and drawing.below(9) == 0 else []:
                self.assertIs(is_mean_front(changed), is_front_by_words(changed), changed)
        self.assertGreater(min(judged.values()), 100)

    def test_by_hand(self):
        memory, program = simple_memory(), simple_program()
        case = {"memory": memory, "program": program, "start": 0, "goals": (0,)}
        self.assertEqual(both_ways(self, mean_front, **case), ((2, -3, 2),))
        self.assertEqual(mean_front(memory, G, 0, (0,)), ((2, 0, 1),))
        self.assertEqual(both_ways(self, no_gain, means=((2, -3, 2),)), ((3, 2), (0, 1)))
        self.assertEqual(no_gain(((2, 0, 1),)), ((0, 1), (0, 1)))
        for means, right in [(None, ((1, 0), (0, 1))), ("short", ((1, 0), (0, 1))), (((1, 0, 1), (0, 1, 1)), None), (((1, 1, 5),), None), (((-1, -2, 3),), ((1, 0), (0, 1))),
                             (((1, -1, 1), (-1, 1, 1)), ((1, 1), (1, 1))), (((0, 1, 1),), ((1, 0), (1, 0))), (((2, -3, 1), (-3, 2, 1)), ((3, 2), (2, 3))),
                             (((3, -2, 7), (-2, 3, 7)), None), (((5, -2, 3), (-2, 5, 3)), None), (((0, 0, 1),), ((1, 0), (0, 1))),
                             (((3, -1, 1), (-9, 2, 1)), ((1, 3), (2, 9))), (((3, -1, 1), (-6, 2, 1)), ((1, 3), (1, 3))), (((2, 0, 1), (0, 1, 1)), None)]:
            self.assertEqual(no_gain(means), right, means)
        self.assertEqual(both_ways(self, mean_worth, means=((3, 0, 2), (0, 5, 3)), price=(1, 1)), (5, 3))
        self.assertEqual(mean_worth(((3, 0, 2), (0, 5, 3)), (2, 1)), (3, 1))
        self.assertIsNone(mean_worth(None, (1, 0)))
        self.assertEqual(mean_worth("short", (1, 0)), "short")
        self.assertEqual(both_ways(self, mean_prices, means=((3, 0, 2), (0, 5, 3))), [(1, 0), (10, 9), (0, 1)])
        self.assertEqual(mean_prices(((1, 2, 3),)), [(1, 0), (0, 1)])
        self.assertEqual((mean_prices(None), mean_prices("short")), ([], []))

    def test_drawn(self):
        kinds = {}
        for drawing, memory, program, start, goals in drawn_cases(376, 150, 3, 3):
            case = (memory, program, start, goals)
            means = mean_front(*case)
            self.assertTrue(is_front_by_words(means))
            self.assertIs(is_mean_front(means), True)
            for price in some_prices()[::4] + mean_prices(means):
                self.assertEqual(mean_worth(means, price), mean_at(*case, price))
            for one, other in zip(mean_prices(means), mean_prices(means)[1:]):
                self.assertEqual(mean_worth(means, amid(one, other)), mean_at(*case, amid(one, other)))
            # Whole is endless at just the prices outside of no_gain.
            stretch, front = no_gain(means), whole(*case)
            if front is not None:
                ends = [] if stretch is None else list(stretch)
                for price in some_prices() + ends:
                    inside = stretch is not None and not price[0] * ends[0][1] > ends[0][0] * price[1] and not ends[1][0] * price[1] > price[0] * ends[1][1]
                    self.assertIs(at_price(front, price) == "endless", not inside)
            kind = means if means in (None, "short") else len(means)
            kinds[kind] = kinds.get(kind, 0) + 1
        self.assertGreater(len(kinds), 3)

    def test_many_corners(self):
        letters = tuple("abcdefgh")
        memory = Memory(letters, (tuple((0, at * at, (7 - at) * (7 - at)) for at in range(8)),))
        program = Program({"f": ("any", ("either", tuple(("read", letter) for letter in letters)))}, "f")
        means = mean_front(memory, program, 0, (0,))
        self.assertEqual(means, ((49, 0, 1), (0, 49, 1)))
        memory = Memory(letters, (tuple((0, 100 - (7 - at) * (7 - at), 100 - at * at) for at in range(8)),))
        means = mean_front(memory, program, 0, (0,))
        self.assertEqual(means, tuple((100 - at * at, 100 - (7 - at) * (7 - at), 1) for at in range(8)))
        self.assertEqual(len(mean_prices(means)), 9)
        shown = mean_showing(memory, program, 0, (0,))
        self.assertEqual((len(shown["laps"]), len(shown["papers"])), (8, 9))
        self.assertIs(is_mean_showing(memory, program, 0, (0,), shown), True)


def is_showing_by_words(memory, program, start, goals, thing):
    if type(thing) is not dict or set(thing) != {"means", "laps", "papers", "runs"} or not is_front_by_words(thing["means"]):
        return False
    if not all(type(thing[key]) in (list, tuple) for key in ("laps", "papers", "runs")):
        return False
    means = thing["means"]
    laps = [lap_mean(memory, program, start, goals, lap) for lap in thing["laps"]]
    runs = [pair_of_run(memory, program, start, goals, tale) for tale in thing["runs"]]
    if None in runs or len(runs) != (means == "short"):
        return False
    corners = means if type(means) is tuple else ()
    prices = mean_prices(means) or [(1, 0)]
    if tuple(laps) != corners or len(thing["papers"]) != len(prices):
        return False
    triples = [((program.first,), start, goal) for goal in goals]
    for price, item in zip(prices, thing["papers"]):
        if type(item) is not tuple or len(item) != 3 or repr(item[0]) != repr(price):
            return False
        mean = mean_worth(means, price) if corners else (0, 1)
        step = margin_step(mean) if corners else lambda price, a, b: 1
        if repr(item[1]) != repr(mean) or not is_paper_by_words(memory, program, price, item[2], step):
            return False
        if any(triple not in item[2][0] and triple not in item[2][1] for triple in triples):
            return False
        if all(triple in item[2][0] for triple in triples) is not (means is None):
            return False
    return True


class MeanShowings(unittest.TestCase):
    def judge(self, memory, program, start, goals, thing):
        right = is_showing_by_words(memory, program, start, goals, thing)
        kept = repr(thing)
        self.assertIs(is_mean_showing(memory, program, start, goals, thing), right, thing)
        self.assertEqual(repr(thing), kept)
        return right

    def test_drawn(self):
        kinds = {}
        for _, memory, program, start, goals in drawn_cases(377, 120, 3, 3):
            case = {"memory": memory, "program": program, "start": start, "goals": goals}
            thing = both_ways(self, mean_showing, **case)
            self.assertEqual(list(thing), sorted(thing))
            self.assertIs(both_ways(self, is_mean_showing, **case, thing=thing), True)
            self.assertTrue(self.judge(*case.values(), thing))
            self.assertEqual(thing["means"], mean_front(*case.values()))
            self.assertTrue(self.judge(*case.values(), {key: tuple(thing[key]) if type(thing[key]) is list else thing[key] for key in thing}))
            for price, mean, shown in thing["papers"] if type(thing["means"]) is tuple else []:
                self.assertEqual(mean, mean_at(*case.values(), price))
                self.assertEqual(shown_margin(*case.values(), price, mean, shown), margin_at(*case.values(), price))
            kind = thing["means"] if thing["means"] in (None, "short") else 0
            kinds[kind] = kinds.get(kind, 0) + 1
            for key in ("laps", "papers", "runs"):
                thing[key].clear()
            self.assertIs(is_mean_showing(*case.values(), mean_showing(*case.values())), True)
        self.assertGreater(min(kinds.values()), 10)
        self.assertEqual(len(kinds), 3)

    def test_one_thing_otherwise(self):
        judged = {True: 0, False: 0}
        star = Program({"f": ("any", ("either", (A, B)))}, "f")
        crossed = Memory(("a", "b"), (((0, 2, -1), (0, -1, 2)),))
        for memory, program in [(simple_memory(), simple_program()), (simple_memory(), SHORT), (simple_memory(), SILENT), (crossed, star)]:
            thing = mean_showing(memory, program, 0, (0,))
            for changed in mutants(thing):
                judged[self.judge(memory, program, 0, (0,), changed)] += 1
        self.assertGreater(min(judged.values()), 15)
        for changed in any_values():
            self.assertIs(self.judge(simple_memory(), simple_program(), 0, (0,), changed), False)

    def test_false_fronts(self):
        memory, program = simple_memory(), simple_program()
        thing = mean_showing(memory, program, 0, (0,))
        for means in (None, "short", ((1, -1, 1),), ((2, -3, 1),), ((2, -3, 2), (0, 0, 1))):
            self.assertIs(self.judge(memory, program, 0, (0,), {**thing, "means": means}), False)
        short = mean_showing(memory, SHORT, 0, (0,))
        self.assertEqual(short["means"], "short")
        self.assertEqual([item[:2] for item in short["papers"]], [((1, 0), (0, 1))])
        silent = mean_showing(memory, SILENT, 0, (0,))
        self.assertEqual((silent["means"], silent["laps"], silent["runs"]), (None, [], []))


class WrongValues(unittest.TestCase):
    def test_leftmost(self):
        case = {"memory": simple_memory(), "program": simple_program(), "start": 0, "goals": (0,), "price": (1, 1)}
        wrong = wrong_values(("memory", "memory"), ("program", "letters"), ("start", "state"), ("goals", "goals"), ("price", "price"))
        wrong["mean"] = [(thing, BadMean, {}) for thing in any_values() + [(2, 2), (0, 2), (1, 0), (1, -1), (True, 1), (0, True), [0, 1], "short", (0, 0), (3, 6), (-2, 4)]
                         if thing not in [(0, 1), (1, 1)]]
        wrong["lap"] = [(thing, BadLap, {}) for thing in any_values()]
        wrong["paper"] = [(thing, BadPaper, {}) for thing in any_values() if thing != ((), {})]
        for function in (mean_at, margin_at, margin_tale, lap_at, mean_paper):
            refuses(self, function, case, wrong)
        runs = {name: case[name] for name in case if name != "price"}
        for function in (mean_front, mean_showing):
            refuses(self, function, runs, wrong)
        lap = lap_at(*case.values())
        refuses(self, mean_of, {**runs, "lap": lap}, wrong)
        refuses(self, shown_margin, {**case, "mean": mean_at(*case.values()), "paper": mean_paper(*case.values())}, wrong)
        for name in runs:
            for thing, error, attributes in wrong[name]:
                caught(self, error, attributes, is_lap, **{**runs, name: thing}, thing=None)
                caught(self, error, attributes, is_mean_showing, **{**runs, name: thing}, thing=None)
        for name in ("memory", "program", "price", "mean"):
            for thing, error, attributes in wrong[name]:
                values = {"memory": simple_memory(), "program": simple_program(), "price": (1, 1), "mean": (0, 1), name: thing}
                caught(self, error, attributes, is_mean_paper, **values, thing=None)
        things = [thing for thing in any_values() if not is_front_by_words(thing)] + [((2, 0, 2),), [(1, 0, 1)], ((0, 1, 1), (1, 0, 1)), "Short", ()]
        for thing in things:
            for function in (mean_prices, no_gain):
                caught(self, BadMeans, {}, function, thing)
            caught(self, BadMeans, {}, mean_worth, thing, None)
        for price, error, attributes in wrong["price"]:
            caught(self, error, attributes, mean_worth, None, price)

    def test_too_many(self):
        # 5 heads and 20 states are 2000 triples, 6 heads are too many.
        for many in (5, 6):
            case = (memory_of(20), program_of_heads(many), 0, (1,))
            for function, rest in [(mean_at, ((1, 1),)), (margin_at, ((1, 1),)), (margin_tale, ((1, 1),)), (lap_at, ((1, 1),)), (mean_paper, ((1, 1),)), (mean_front, ()),
                                   (mean_showing, ()), (is_lap, (None,)), (is_mean_showing, (None,))]:
                if many == 6:
                    caught(self, TooMany, {"most": 2000}, function, *case, *rest)
                else:
                    function(*case, *rest)
            errors = [(BadLap, {}), (BadPaper, {}), (False, None)] if many == 5 else [(TooMany, {"most": 2000})] * 3
            caught(self, *errors[0], mean_of, *case, None)
            caught(self, *errors[1], shown_margin, *case, (1, 1), (0, 1), None)
            if many == 6:
                caught(self, TooMany, {"most": 2000}, is_mean_paper, *case[:2], (1, 1), (0, 1), None)
                caught(self, BadMean, {}, is_mean_paper, *case[:2], (1, 1), (0, 2), None)
                caught(self, BadMean, {}, shown_margin, *case, (1, 1), (0, 2), None)
            else:
                self.assertIs(is_mean_paper(*case[:2], (1, 1), (0, 1), None), False)

    def test_no_runs_at_all(self):
        self.assertEqual(longest(simple_memory(), SHORT, 0, (0,)), 2)
        self.assertEqual(told(simple_memory(), SHORT, mean_showing(simple_memory(), SHORT, 0, (0,))["runs"][0])[-1][0], 0)


if __name__ == "__main__":
    unittest.main()
