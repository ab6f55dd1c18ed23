"""What a program can cost, at all prices."""

from hitclocks.asking import by_asking
from hitclocks.cases import check_case, check_triples
from hitclocks.findings import Finding
from hitclocks.fronts import check_front, is_over
from hitclocks.lines import AHEAD_OF_ALL
from hitclocks.memories import negated
from hitclocks.searches import steps_at
from hitclocks.telling import last_run
from hitclocks.unders import bends


class Asker:
    """Answers what the most is at a price, and keeps the tales and pumps by which it does.

    steps_of tells of a price what is paid at it: all steps of the memory, or some of them.
    """

    def __init__(self, memory, program, start, goals, steps_of):
        self.memory = memory
        self.program = program
        self.start = start
        self.goals = goals
        self.steps_of = steps_of
        self.tales = {}
        self.pumps = {}

    def front(self):
        """The front of all answers."""
        return by_asking(lambda price: self.answer(price))

    def answer(self, price):
        """None without runs, ("most", pair) of a dearest run, or ("gains", pair) of a round that gains."""
        steps_of = self.steps_of
        finding = Finding(self.program, steps_of(price), self.start, self.goals)
        most = finding.greatest()
        if most is None:
            return None
        if most == "endless":
            grown = finding.pump()
            pair = self.pair_of(grown[1], True)
            self.pumps[pair] = grown
            return ("gains", pair)
        tale = finding.tale()
        pair = self.pair_of(tale, False)
        self.tales[pair] = tale
        return ("most", pair)

    def pair_of(self, tale, with_gap):
        """The pair of the last entry of a tale."""
        run = last_run(self.memory, self.program, tale, with_gap)
        return (run.first, run.second)


def whole(memory, program, start, goals):
    """The front that is, at each price, the most."""
    check_case(memory, program, start, goals)
    check_triples(memory, program)
    return front_of_runs(memory, program, start, goals)


def front_of_runs(memory, program, start, goals):
    """As whole, without checks."""
    return asker_of(memory, program, start, goals).front()


def asker_of(memory, program, start, goals):
    """The asker for all steps of a memory."""
    return Asker(memory, program, start, goals, lambda price: steps_at(memory, price))


def cheapest(memory, program, start, goals):
    """The whole of the negated memory."""
    return whole(negated(memory), program, start, goals)


def critical(front):
    """The list of the prices at which papers show a front."""
    check_front(front)
    return critical_prices(front)


def critical_prices(front):
    """As critical, without checks."""
    if front is None:
        return [AHEAD_OF_ALL]
    if is_over(front):
        return bends(front)
    return [] if front[0] == "endless" else [front[1]]
