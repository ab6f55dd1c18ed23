"""[2] over the whole program: one front told by all parts, and [3]: equal arguments, nothing changed, what is returned is new."""

import unittest

from drawing import Drawing, simple_memory, simple_program
from hitclocks.alike import least_memory
from hitclocks.broken import broken, broken_at, places
from hitclocks.choices import case_fronts
from hitclocks.dearest import most_at
from hitclocks.dearplaces import place_fronts
from hitclocks.desk import Desk
from hitclocks.equations import lettering_of
from hitclocks.errors import BadProgram, TooMany
from hitclocks.fronts import at_price, front_of, is_below, joined, summed
from hitclocks.heads import heads
from hitclocks.journals import journal_of, replayed
from hitclocks.lengths import by_length, tallied, within_length
from hitclocks.losses import loss, loss_of_breaks
from hitclocks.means import mean_at
from hitclocks.meanshows import mean_front, no_gain
from hitclocks.memories import Memory, negated, relettered, stepped
from hitclocks.monitors import at_most, counted, just
from hitclocks.orders import costs, whole_by_orders
from hitclocks.papers import is_paper, paper, shown_most
from hitclocks.prices import amid
from hitclocks.programs import Program, is_word_of, letters_of, turned_about
from hitclocks.pumps import is_pump, pump
from hitclocks.readings import Reading, next_letters, rest_front
from hitclocks.shortest import settles
from hitclocks.showings import is_showing, showing
from hitclocks.sides import beside, respelled
from hitclocks.tales import is_tale
from hitclocks.talewords import tale_from, tale_text
from hitclocks.texts import front_from, front_text, memory_of, memory_text, program_of, program_text
from hitclocks.together import inlined, replaced, unrolled
from hitclocks.watching import watched, watched_goals, watched_whole
from hitclocks.wholes import critical, whole
from test_at_a_price import drawn_cases

AB = ("a", "b")


class OneFront(unittest.TestCase):
    def cases(self, seed, many, states=2, depth=3):
        for drawing, memory, program, start, goals in drawn_cases(seed, many, states, depth):
            yield drawing, memory, program, start, goals, whole(memory, program, start, goals)

    def test_by_matrices_and_orders(self):
        done = 0
        for _, memory, program, start, goals, front in self.cases(421, 90, 2, 2):
            if len(heads(program)) * len(memory) ** 2 <= 30:
                self.assertEqual(whole_by_orders(memory, program, start, goals), front)
                row = costs(lettering_of(memory), program)[(program.first,)][start]
                both = None
                for goal in goals:
                    both = joined(both, row[goal])
                self.assertEqual(both, front)
                done += 1
        self.assertGreater(done, 40)

    def test_by_runs_of_a_told_length(self):
        done = 0
        for _, memory, program, start, goals, front in self.cases(422, 80):
            enough = settles(memory, program, start, goals)
            if enough is None or enough > 8:
                continue
            some = within_length(memory, program, start, goals, enough)
            for price in critical(front) + [amid(one, other) for one, other in zip(critical(front), critical(front)[1:])]:
                self.assertEqual(at_price(some, price), at_price(front, price))
            every = None
            for number, one in enumerate(by_length(memory, program, start, goals, enough)):
                every = joined(every, one)
                self.assertEqual(watched_whole(memory, program, start, goals, just(memory.letters, memory.letters, number)) if number <= 3 else one, one)
            self.assertEqual(every, some)
            self.assertIs(is_below(some, front), True)
            done += 1
        self.assertGreater(done, 30)

    def test_letter_by_letter_from_the_empty_word(self):
        for _, memory, program, start, goals, front in self.cases(423, 60):
            if front is None:
                continue
            parts = front_of([(0, 0)]) if start in goals and is_word_of(program, ()) else None
            for letter in next_letters(memory, program, start, goals, ()):
                parts = joined(parts, summed(front_of([stepped(memory, start, letter)[1]]), rest_front(memory, program, start, goals, (letter,))))
            self.assertEqual(parts, front)
            self.assertEqual(rest_front(memory, program, start, goals, ()), front)
            reading = Reading(memory, program, start, goals, (1, 1))
            self.assertEqual((reading.rest(), reading.most()), (front, at_price(front, (1, 1))))
            self.assertEqual(journal_of(replayed(memory, program, start, goals, (1, 1), [])), [])

    def test_by_monitors(self):
        for _, memory, program, start, goals, front in self.cases(424, 50):
            for monitor in (at_most(AB, ("a",), 1), counted(AB, ("b",), 2, 1)):
                some = watched_whole(memory, program, start, goals, monitor)
                self.assertEqual(joined(some, watched_whole(memory, program, start, goals, ~monitor)), front)
                ends = watched_goals(memory, goals, monitor)
                self.assertEqual(case_fronts([(watched(memory, monitor), program, start * len(monitor), ends)]), [some])

    def test_by_means(self):
        kinds = {}
        for drawing, memory, program, start, goals, front in self.cases(425, 100):
            means = mean_front(memory, program, start, goals)
            stretch = no_gain(means)
            if front is None:
                self.assertIsNone(means)
            elif front == ("endless",):
                self.assertIsNone(stretch)
            else:
                self.assertEqual(stretch, (front[1], front[1]) if front[0] == "at" else front[1:3])
            price = drawing.price()
            mean = mean_at(memory, program, start, goals, price)
            endless = mean not in (None, "short") and mean[0] > 0
            self.assertIs(at_price(front, price) == "endless", endless)
            kinds[front and front[0]] = True
        self.assertEqual(len(kinds), 4)

    def test_by_broken_programs(self):
        intruder = Program({"x": ("read", "b")}, "x")
        nothing = Program({"x": ("none",)}, "x")
        for _, memory, program, start, goals, front in self.cases(426, 40, 2, 2):
            self.assertEqual(whole(memory, broken(program, intruder, 0), start, goals), front)
            once = None
            for place in places(program):
                still = whole(memory, broken_at(program, nothing, place), start, goals)
                self.assertIs(still == front if place == () else is_below(still, front), True)
                once = joined(once, whole(memory, broken_at(program, intruder, place), start, goals))
            right = whole(memory, broken(program, intruder, 1), start, goals)
            self.assertEqual(once, right)
            try:
                joins = None
                for _, one in place_fronts(memory, program, intruder, start, goals):
                    joins = joined(joins, one)
                self.assertEqual(joins, right)
            except TooMany:
                pass
            ends = tuple(range(len(memory)))
            lost = loss_of_breaks(memory, program, intruder, 1, start)
            self.assertIs(is_below(whole(memory, broken(program, intruder, 1), start, ends), summed(whole(memory, program, start, ends), lost)), True)

    def test_by_texts_and_a_desk(self):
        for _, memory, program, start, goals, front in self.cases(427, 60, 3):
            again, other = memory_of(memory_text(memory)), program_of(program_text(program))
            self.assertTrue(again == memory and other == program)
            self.assertEqual(front_from(front_text(whole(again, other, start, goals))), front)
            desk = Desk()
            desk.load("m", memory_text(memory))
            desk.load("p", program_text(program))
            line = "whole m p {} {}".format(start, ",".join(str(goal) for goal in goals))
            self.assertEqual(front_from(desk.answer(line) + "\n"), front)
            for tale in pump(memory, program, start, goals, (1, 1)) or ():
                self.assertEqual(tale_from(tale_text(tale)), tale)
            if front is not None:
                for tale in showing(memory, program, start, goals)["runs"]:
                    self.assertIs(is_tale(memory, program, tale_from(tale_text(tale))), True)

    def test_over_the_least_memory_and_under_other_names(self):
        names = {"a": "Z", "b": "0.x"}
        for drawing, memory, program, start, goals, front in self.cases(428, 60):
            ends = tuple(range(len(memory)))
            every = whole(memory, program, start, ends)
            least = least_memory(memory, start)
            self.assertEqual(whole(least, program, 0, tuple(range(len(least)))), every)
            spelled = respelled(program, {letter: names[letter] for letter in letters_of(program)})
            self.assertEqual(whole(relettered(memory, names), spelled, start, goals), front)
            self.assertEqual(whole(negated(negated(memory)), program, start, goals), front)
            self.assertTrue(turned_about(turned_about(program)) == program)
            self.assertEqual(loss(memory, memory, program, start, start), front_of([(0, 0)]) if every is not None else None)
            free = Memory(memory.letters, tuple(tuple((place, 0, 0) for place, _, _ in row) for row in memory.moves))
            self.assertEqual(loss(memory, free, program, start, start), every)
            both = beside(memory, free, start, start, {})
            self.assertEqual(whole(both, program, 0, tuple(range(len(both)))), every)

    def test_with_calls_and_loops_written_out(self):
        done = 0
        for _, memory, program, start, goals, front in self.cases(429, 60):
            for name, body in program.procedures.items():
                for path, here in bodies_in(body):
                    if here[0] in ("call", "any"):
                        try:
                            made = (inlined if here[0] == "call" else unrolled)(program, name, path)
                        except BadProgram:
                            continue
                        self.assertEqual(whole(memory, made, start, goals), front)
                        done += 1
            other = replaced(program, "a", Program({"f": ("read", "a"), "g": ("none",)}, "f"))
            self.assertEqual(whole(memory, other, start, goals), front)
        self.assertGreater(done, 60)

    def test_papers_and_pumps_at_critical_prices(self):
        for _, memory, program, start, goals, front in self.cases(430, 40, 3):
            shown = showing(memory, program, start, goals)
            self.assertEqual(shown["front"], front)
            self.assertIs(is_showing(memory, program, start, goals, shown), True)
            for price in critical(front):
                one = paper(memory, program, start, goals, price)
                self.assertIs(is_paper(memory, program, price, one), True)
                self.assertEqual(shown_most(memory, program, start, goals, price, one), most_at(memory, program, start, goals, price))
            for price in ((1, 0), (1, 1), (0, 1)):
                gains = pump(memory, program, start, goals, price)
                self.assertIs(gains is not None, at_price(front, price) == "endless")
                self.assertIs(is_pump(memory, program, start, goals, price, gains), gains is not None)


def bodies_in(body, path=()):
    yield path, body
    parts = body[1] if body[0] in ("then", "either") else body[3:] if body[0] == "times" else body[1:] if body[0] == "any" else ()
    for at, part in enumerate(parts):
        yield from bodies_in(part, path + (at,))


class Equal(unittest.TestCase):
    def test_lists_and_tuples_of_equal_items(self):
        drawing = Drawing(431)
        from hitclocks.fronts import front_of as of
        from hitclocks.stairs import fewest, stairs
        from hitclocks.unders import turning_prices
        for _ in range(30):
            pairs = [drawing.pair(5) for _ in range(4)]
            self.assertEqual(of(pairs), of(tuple(pairs)))
            fronts = [drawing.front(4) for _ in range(3)]
            for function in (stairs, fewest, turning_prices):
                self.assertEqual(function(fronts), function(tuple(fronts)))
                self.assertEqual(function(fronts), function(list(fronts)))

    def test_equal_arguments_equal_results(self):
        for _, memory, program, start, goals in drawn_cases(432, 30, 3, 3):
            same = Memory(tuple(memory.letters), tuple(tuple(tuple(move) for move in row) for row in memory.moves))
            other = Program(dict(reversed(list(program.procedures.items()))), program.first)
            self.assertTrue(same == memory and other == program)
            for function in (whole, showing, mean_front, case_of_tallied):
                kept = (memory_text(memory), program_text(program))
                self.assertEqual(function(memory, program, start, goals), function(same, other, start, goals))
                self.assertEqual((memory_text(memory), program_text(program)), kept)

    def test_results_are_new(self):
        case = (simple_memory(), simple_program(), 0, (0,))
        shown = showing(*case)
        for key in ("runs", "papers", "pumps"):
            shown[key].clear()
        self.assertIs(is_showing(*case, showing(*case)), True)


def case_of_tallied(memory, program, start, goals):
    return whole(tallied(memory), program, start, goals)


if __name__ == "__main__":
    unittest.main()
