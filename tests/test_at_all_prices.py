"""[50] whole; [51] critical, cheapest, showing, is_showing; with [3], [4] and [5]."""

import unittest
from itertools import permutations

from drawing import Drawing, any_values, both_ways, caught, simple_memory, simple_program, some_prices
from hitclocks.caches import cache
from hitclocks.dearest import most_at
from hitclocks.errors import BadFront, BadGoals, BadMemory, BadProgram, BadState, NoLetter, TooMany
from hitclocks.fronts import at_price, front_of, is_front
from hitclocks.memories import Memory, negated
from hitclocks.papers import is_paper, shown_most
from hitclocks.prices import amid, meeting, worth
from hitclocks.programs import Program
from hitclocks.showings import is_showing, showing
from hitclocks.tales import told
from hitclocks.wholes import cheapest, critical, whole
from reference import is_paper as is_paper_by_words
from reference import Wrong, entry_runs, most, mutants, pump_gain
from test_at_a_price import drawn_cases, memory_of

A = ("read", "a")
B = ("read", "b")


def prices_of(front):
    """Those at which the front begins, bends and ends, with some between and beside them."""
    if front is None or front[0] == "endless":
        return [(1, 0), (1, 1), (0, 1)]
    ends = [front[1]] if front[0] == "at" else [front[1], front[2]]
    bends = [meeting(one, other) for one, other in zip(front[3], front[3][1:])] if front[0] == "over" else []
    ordered = sorted(set([(1, 0), (0, 1)] + ends + bends), key=lambda price: price[1] / sum(price))
    return ordered + [amid(one, other) for one, other in zip(ordered, ordered[1:])]


def showing_by_words(memory, program, start, goals, thing):
    """As is_showing, by the words of the document."""
    if type(thing) is not dict or set(thing) != {"front", "runs", "papers", "pumps"} or not is_front(thing["front"]):
        return False
    if not all(type(thing[key]) in (list, tuple) for key in ("runs", "papers", "pumps")):
        return False
    front, runs, papers, pumps = [thing[key] for key in ("front", "runs", "papers", "pumps")]
    pairs = [pair_of_run(memory, program, start, goals, tale) for tale in runs]
    gains = [pump_gain(memory, program, start, goals, pump) for pump in pumps]
    if None in pairs or None in gains:
        return False
    kind = "none" if front is None else front[0]
    prices = {"none": [(1, 0)], "endless": []}.get(kind)
    if kind == "at":
        prices = [front[1]]
    if kind == "over":
        prices = [front[1]] + [meeting(one, other) for one, other in zip(front[3], front[3][1:])] + [front[2]]
    if len(papers) != len(prices):
        return False
    for price, item in zip(prices, papers):
        if type(item) is not tuple or len(item) != 2 or repr(item[0]) != repr(price):
            return False
        if not is_paper_by_words(memory, program, price, item[1]):
            return False
        triples = [((program.first,), start, goal) for goal in goals]
        if any(triple not in item[1][0] and triple not in item[1][1] for triple in triples):
            return False
        if max([item[1][1][triple] for triple in triples if triple in item[1][1]], default=None) != at_price(front, price):
            return False
    if kind in ("none", "endless"):
        return not pairs and gains_fit(front, gains)
    if kind == "at":
        return len(pairs) == 1 and worth(pairs[0], front[1]) == front[2] and gains_fit(front, gains)
    return tuple(pairs) == front[3] and gains_fit(front, gains)


def pair_of_run(memory, program, start, goals, tale):
    try:
        run = entry_runs(memory, program, tale, False)[-1]
    except Wrong:
        return None
    return run[3:5] if run[:2] == ((program.first,), start) and run[2] in goals else None


def gains_fit(front, gains):
    if front is None:
        return not gains
    if front[0] == "endless":
        prices = [(1, 0), (0, 1)] + [meeting(one, other) for one in gains for other in gains if meeting(one, other)]
        covered = all(any(worth(gained, price) > 0 for gained in gains) for price in prices)
        return len(gains) in (1, 2) and covered and all(max(gained) > 0 for gained in gains)
    low, high = (front[1], front[1]) if front[0] == "at" else (front[1], front[2])
    wanted = ([(low, 0)] if low != (1, 0) else []) + ([(high, 1)] if high != (0, 1) else [])
    if len(wanted) != len(gains):
        return False
    return all(worth(gained, price) == 0 and gained[side] > 0 for gained, (price, side) in zip(gains, wanted))


def loops_of_pairs(pairs):
    """A memory of one state with a letter for each pair, and a program of a loop over each letter."""
    letters = tuple("abcdef"[:len(pairs)])
    loops = Program({"f": ("then", tuple(("any", ("read", letter)) for letter in letters))}, "f")
    return Memory(letters, (tuple((0,) + pair for pair in pairs),)), loops


def once_round(many, at):
    """The tale of a run of so many loops, one of which goes round once."""
    ends = tuple((("f", (loop,)), 0, ("end",)) for loop in range(many))
    plays = tuple(("any", many if loop == at else loop) for loop in range(many))
    return ends + ((("f", (at,)), 0, ("more", ("read",), at)), (("f",), 0, ("then", plays)))


def lap_pump(many, at):
    """The pump of so many loops whose round is that of one of them."""
    gap = ("gap", ("f", (at,)), 0, 0)
    ends = tuple((("f", (loop,)), 0, ("end",)) for loop in range(many) if loop != at)
    numbers = [loop for loop in range(many) if loop != at]
    plays = tuple(("any", 0 if loop == at else 1 + numbers.index(loop)) for loop in range(many))
    return (gap,) + ends + ((("f",), 0, ("then", plays)),), (gap, (gap[1], 0, ("more", ("read",), 0))), ((gap[1], 0, ("end",)),)


class Whole(unittest.TestCase):
    def test_by_hand(self):
        case = {"memory": simple_memory(), "program": simple_program(), "start": 0, "goals": (0,)}
        self.assertEqual(both_ways(self, whole, **case), ("over", (3, 2), (0, 1), ((0, 0),)))
        self.assertEqual(both_ways(self, cheapest, **case), ("over", (1, 0), (3, 2), ((0, 0),)))

    def test_fronts_of_all_kinds(self):
        loops = Program({"f": ("then", (("any", A), ("any", B)))}, "f")
        for pairs, front in [([(1, -1), (-1, 1)], ("at", (1, 1), 0)), ([(1, -2), (-2, 1)], ("over", (2, 1), (1, 2), ((0, 0),))),
                             ([(1, 0), (0, -1)], ("at", (0, 1), 0)), ([(0, 1), (-1, 0)], ("at", (1, 0), 0)),
                             ([(2, -1), (-1, 2)], ("endless",)), ([(1, 0), (0, 1)], ("endless",)), ([(1, 1), (0, 0)], ("endless",)),
                             ([(1, -1), (-1, 2)], ("endless",)), ([(-1, -1), (0, 0)], front_of([(0, 0)])),
                             ([(0, 0), (1, -1)], ("over", (1, 1), (0, 1), ((0, 0),)))]:
            memory = Memory(("a", "b"), (((0,) + pairs[0], (0,) + pairs[1]),))
            self.assertEqual(whole(memory, loops, 0, (0,)), front)
            shown = showing(memory, loops, 0, (0,))
            self.assertEqual(shown["front"], front)
            self.assertIs(showing_by_words(memory, loops, 0, (0,), shown), True)
        nothing = Program({"f": ("call", "f"), "g": ("any", A)}, "f")
        self.assertIsNone(whole(simple_memory(), nothing, 0, (0,)))
        corners = Program({"f": ("times", 3, 3, ("either", (A, B, ("read", "c"))))}, "f")
        memory = Memory(("a", "b", "c"), (((0, 3, 0), (0, 2, 2), (0, 0, 3)),))
        self.assertEqual(whole(memory, corners, 0, (0,)), front_of([(9, 0), (6, 6), (0, 9)]))

    def test_drawn(self):
        kinds = {}
        for drawing, memory, program, start, goals in drawn_cases(71, 200, 3, 3):
            front = whole(memory, program, start, goals)
            self.assertIs(is_front(front), True)
            kinds[front and front[0]] = kinds.get(front and front[0], 0) + 1
            for price in prices_of(front)[:6] + [drawing.pick(some_prices())]:
                self.assertEqual(at_price(front, price), most(memory, program, start, goals, price))
            self.assertEqual(cheapest(memory, program, start, goals), whole(negated(memory), program, start, goals))
        self.assertEqual(set(kinds), {None, "endless", "at", "over"})

    def test_caches(self):
        memory = cache("last", 2, 3, "late")
        states = tuple(range(len(memory)))
        some = Program({"f": ("any", ("either", (("read", "A"), ("read", "b"))))}, "f")
        self.assertEqual(whole(memory, some, 0, states), front_of([(2, 0)]))
        every = Program({"f": ("any", ("either", (("read", "A"), ("read", "b"), ("read", "c"))))}, "f")
        self.assertEqual(whole(memory, every, 0, states), ("endless",))
        once = Program({"f": ("times", 3, 3, ("either", (("read", "A"), ("read", "b"), ("read", "c"))))}, "f")
        self.assertEqual(whole(memory, once, 0, states), front_of([(3, 1)]))
        for price in some_prices()[::5]:
            self.assertEqual(most_at(memory, once, 0, states, price), 3 * price[0] + price[1])

    def test_critical(self):
        self.assertEqual(both_ways(self, critical, front=("over", (2, 1), (1, 2), ((2, 0), (0, 2)))), [(2, 1), (1, 1), (1, 2)])
        self.assertEqual(critical(None), [(1, 0)])
        self.assertEqual(critical(("endless",)), [])
        self.assertEqual(critical(("at", (2, 3), 5)), [(2, 3)])
        self.assertEqual(critical(front_of([(1, 1)])), [(1, 0), (0, 1)])
        for wrong in [["endless"], ("at", (2, 2), 0), 0, "endless", ("over", (1, 0), (0, 1), ())]:
            caught(self, BadFront, {}, critical, wrong)


class Showings(unittest.TestCase):
    def judge(self, memory, program, start, goals, thing):
        right = showing_by_words(memory, program, start, goals, thing)
        self.assertIs(is_showing(memory, program, start, goals, thing), right, thing)
        if right:
            self.assertEqual(thing["front"], whole(memory, program, start, goals))
        return right

    def test_example_by_hand(self):
        memory, program = simple_memory(), simple_program()
        lap = (("gap", ("f",), 0, 0), (("f",), 0, ("either", 0, ("then", (("read",), ("call", 0), ("read",))))))
        rest = ((("f",), 0, ("either", 1, ("none",))),)
        shown = ((), {(("f",), 0, 0): 0})
        thing = {"front": ("over", (3, 2), (0, 1), ((0, 0),)), "runs": [rest], "papers": [((3, 2), shown), ((0, 1), shown)],
                 "pumps": [(lap, lap, rest)]}
        self.assertIs(both_ways(self, is_showing, memory=memory, program=program, start=0, goals=(0,), thing=thing), True)
        tuples = {key: tuple(value) for key, value in thing.items()}
        self.assertIs(is_showing(memory, program, 0, (0,), tuples), True)
        for front in [("over", (3, 1), (0, 1), ((0, 0),)), ("over", (1, 1), (0, 1), ((0, 0),)), ("over", (3, 2), (1, 1), ((0, 0),)),
                      ("over", (3, 2), (0, 1), ((0, 1),)), ("at", (3, 2), 0), None, ("endless",), front_of([(0, 0)])]:
            self.assertIs(is_showing(memory, program, 0, (0,), {**thing, "front": front}), False)
        self.assertEqual(both_ways(self, showing, memory=memory, program=program, start=0, goals=(0,))["front"], thing["front"])

    def test_drawn(self):
        for drawing, memory, program, start, goals in drawn_cases(72, 160, 3, 3):
            shown = showing(memory, program, start, goals)
            self.assertEqual(list(shown), ["front", "papers", "pumps", "runs"])
            self.assertEqual([type(shown[key]) for key in ("papers", "pumps", "runs")], [list] * 3)
            self.assertEqual(shown["front"], whole(memory, program, start, goals))
            self.assertEqual([price for price, _ in shown["papers"]], critical(shown["front"]))
            self.assertIs(showing_by_words(memory, program, start, goals, shown), True)
            self.assertIs(is_showing(memory, program, start, goals, shown), True)
            self.assertEqual(shown, showing(memory, program, start, goals))
            for price, paper in shown["papers"]:
                self.assertIs(is_paper(memory, program, price, paper), True)
                self.assertEqual(shown_most(memory, program, start, goals, price, paper), at_price(shown["front"], price))
            if shown["front"] is not None and shown["front"][0] == "over":
                self.assertEqual(tuple(told(memory, program, tale)[-1][1] for tale in shown["runs"]), shown["front"][3])
            shown["papers"].clear()
            shown["pumps"].append(None)
            self.assertIs(is_showing(memory, program, start, goals, showing(memory, program, start, goals)), True)

    def test_one_thing_otherwise(self):
        loops = Program({"f": ("then", (("any", A), ("any", B)))}, "f")
        cases = [(simple_memory(), simple_program())]
        for pairs in [((1, -1), (-1, 1)), ((2, -1), (-1, 2)), ((1, 1), (0, 0)), ((1, -2), (-2, 1))]:
            cases.append((Memory(("a", "b"), (((0,) + pairs[0], (0,) + pairs[1]),)), loops))
        cases.append((simple_memory(), Program({"f": ("call", "f")}, "f")))
        cases.append((Memory(("a", "b"), (((1, 3, 0), (0, 0, 2)), ((0, 0, 1), (1, 2, 0)))),
                      Program({"f": ("times", 1, 2, ("either", (A, B)))}, "f")))
        judged = {True: 0, False: 0}
        for memory, program in cases:
            shown = showing(memory, program, 0, (0,))
            kept = repr(shown)
            for number, thing in enumerate(mutants(shown)):
                judged[self.judge(memory, program, 0, (0,), thing)] += 1
            self.assertEqual(repr(shown), kept)
            for key in shown:
                for value in any_values():
                    self.judge(memory, program, 0, (0,), {**shown, key: value})
                    self.judge(memory, program, 0, (0,), {**shown, key: [value]})
        self.assertGreater(min(judged.values()), 10)

    def test_two_pumps_or_one(self):
        memory = Memory(("a", "b"), (((0, 1, 1), (0, 2, -1)),))
        loops = Program({"f": ("then", (("any", A), ("any", B)))}, "f")
        shown = showing(memory, loops, 0, (0,))
        self.assertEqual(len(shown["pumps"]), 1)
        both = shown["pumps"] * 2
        self.assertIs(self.judge(memory, loops, 0, (0,), {**shown, "pumps": both}), True)
        self.assertIs(self.judge(memory, loops, 0, (0,), {**shown, "pumps": both + both}), False)
        self.assertIs(self.judge(memory, loops, 0, (0,), {**shown, "pumps": []}), False)
        memory, loops = loops_of_pairs([(1, 1), (-1, -1), (1, -9), (0, 0)])
        for pumps, right in [((0,), True), ((0, 2), True), ((2, 0), True), ((0, 1), False), ((0, 3), False), ((2,), False)]:
            thing = {"front": ("endless",), "runs": (), "papers": (), "pumps": [lap_pump(4, at) for at in pumps]}
            self.assertIs(self.judge(memory, loops, 0, (0,), thing), right)

    def test_endless_needs_a_gain_at_each_price(self):
        for pairs, right in [([(1, -1), (-1, 1)], False), ([(1, 0), (0, -1)], False), ([(-1, 0), (0, 1)], False),
                             ([(2, -1), (-1, 2)], True), ([(1, -1), (-1, 2)], True), ([(1, 0), (0, 1)], True)]:
            memory, loops = loops_of_pairs(pairs)
            laps = [lap_pump(2, 0), lap_pump(2, 1)]
            for pumps in [laps, laps[::-1], laps[:1], laps[1:], []]:
                thing = {"front": ("endless",), "runs": [], "papers": [], "pumps": pumps}
                self.assertIs(self.judge(memory, loops, 0, (0,), thing), right and len(pumps) == 2)

    def test_pumps_show_just_the_ends(self):
        pairs = [(2, -3), (1, -3), (0, 0), (-3, 2), (-4, 1), (-1, -1)]
        memory, loops = loops_of_pairs(pairs)
        shown = showing(memory, loops, 0, (0,))
        self.assertEqual(shown["front"], ("over", (3, 2), (2, 3), ((0, 0),)))
        laps = [lap_pump(6, at) for at in range(6)]
        for first, one in enumerate(laps):
            for second, other in enumerate(laps):
                right = self.judge(memory, loops, 0, (0,), {**shown, "pumps": [one, other]})
                self.assertIs(right, (first, second) == (0, 3))
            self.assertIs(self.judge(memory, loops, 0, (0,), {**shown, "pumps": [one]}), False)
            self.assertIs(self.judge(memory, loops, 0, (0,), {**shown, "pumps": [laps[0], laps[3], one]}), False)

    def test_runs_begin_and_end_where_they_should(self):
        memory = Memory(("a", "b"), (((1, 1, 1), (0, 1, 1)), ((1, 1, 1), (0, 2, 2))))
        program = Program({"f": ("either", (A, B)), "g": A}, "f")
        shown = showing(memory, program, 0, (1,))
        self.assertEqual(shown["front"], front_of([(1, 1)]))
        for run, right in [((("f",), 0, ("either", 0, ("read",))), True), ((("f",), 0, ("either", 1, ("read",))), False),
                           ((("f",), 1, ("either", 0, ("read",))), False), ((("g",), 0, ("read",)), False)]:
            self.assertIs(self.judge(memory, program, 0, (1,), {**shown, "runs": [(run,)]}), right)

    def test_the_run_at_one_price(self):
        memory, loops = loops_of_pairs([(1, -1), (-1, 1), (-1, 0), (0, -1)])
        shown = showing(memory, loops, 0, (0,))
        self.assertEqual(shown["front"], ("at", (1, 1), 0))
        for at, right in [(0, True), (1, True), (2, False), (3, False)]:
            self.assertIs(self.judge(memory, loops, 0, (0,), {**shown, "runs": [once_round(4, at)]}), right)

    def test_endless_by_many_gains(self):
        for pairs in permutations([(1, -3), (1, -2), (1, -1), (-1, 2)]):
            memory, loops = loops_of_pairs(pairs)
            shown = showing(memory, loops, 0, (0,))
            self.assertEqual((shown["front"], len(shown["pumps"])), (("endless",), 2))
            self.assertIs(self.judge(memory, loops, 0, (0,), shown), True)

    def test_any_values(self):
        for thing in any_values():
            self.assertIs(is_showing(simple_memory(), simple_program(), 0, (0,), thing), False)


class Parameters(unittest.TestCase):
    def test_the_leftmost_counts(self):
        memory, program = simple_memory(), simple_program()
        foreign = Program({"f": A, "g": ("times", 0, 0, ("read", "z"))}, "f")
        for function, more in [(whole, ()), (cheapest, ()), (showing, ()), (is_showing, (0,))]:
            for thing in any_values():
                if not isinstance(thing, Memory):
                    caught(self, BadMemory, {"part": None}, function, thing, 0, -1, (), *more)
                if not isinstance(thing, Program):
                    caught(self, BadProgram, {"part": None}, function, memory, thing, -1, (), *more)
            caught(self, NoLetter, {"letter": "z"}, function, memory, foreign, -1, (), *more)
            for wrong in [-1, 1, True, False, None, "0", (0,)]:
                caught(self, BadState, {}, function, memory, program, wrong, (), *more)
            for wrong in [(), [0], (0, 0), (1,), (False,), (0, None), None, 0, {0: 0}, ((0,),)]:
                caught(self, BadGoals, {}, function, memory, program, 0, wrong, *more)

    def test_too_many(self):
        procedures = {"p" + str(number): ("any", A) for number in range(10)}
        right, wrong = Program(procedures, "p0"), Program({**procedures, "z": A}, "p0")
        memory = memory_of(10)
        # Rounds of ten letters pay (10, -10).
        self.assertEqual(whole(memory, right, 0, (3,)), ("over", (1, 1), (0, 1), ((3, -3),)))
        self.assertEqual(cheapest(memory, right, 0, (3,)), ("over", (1, 0), (1, 1), ((-3, 3),)))
        self.assertIs(is_showing(memory, right, 0, (3,), showing(memory, right, 0, (3,))), True)
        for function, more in [(whole, ()), (cheapest, ()), (showing, ()), (is_showing, (None,))]:
            caught(self, TooMany, {"most": 2000}, function, memory, wrong, 0, (0,), *more)
            caught(self, BadGoals, {}, function, memory, wrong, 0, (), *more)

    def test_what_is_passed_is_not_changed(self):
        drawing = Drawing(73)
        memory, program = drawing.memory(3, 2, 4), drawing.program(3, 3, ("a", "b"))
        kept = repr((memory.letters, memory.moves, program.procedures, program.first))
        thing = showing(memory, program, 0, (0, 1, 2))
        shown = repr(thing)
        is_showing(memory, program, 0, (0, 1, 2), thing)
        self.assertEqual(repr((memory.letters, memory.moves, program.procedures, program.first)), kept)
        self.assertEqual(repr(thing), shown)


if __name__ == "__main__":
    unittest.main()
