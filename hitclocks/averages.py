"""The greatest mean of rounds at a price, found by rounds each of which has a greater one than that ahead."""

from hitclocks.findings import Finding
from hitclocks.lengths import tallied
from hitclocks.lines import AHEAD_OF_ALL, worth_at
from hitclocks.memories import steps_by
from hitclocks.pumps import round_of
from hitclocks.ratios import greatest_of, mean_at_price, mean_of_run
from hitclocks.searches import steps_at


def steps_of_lengths(memory):
    """For each state the dict from the letters to the next state and the length 1."""
    return steps_at(tallied(memory), AHEAD_OF_ALL)


def steps_beside(memory, price, mean):
    """The steps that pay so many times a letter's worth as a fraction has it below, less what it has above."""
    number, many = mean
    return steps_by(memory, lambda pair: many * worth_at(pair, price) - number)


class Averages:
    """What is known of the means of the rounds of some runs: laps, by their means, that were found so far."""

    def __init__(self, memory, program, start, goals):
        self.memory = memory
        self.program = program
        self.start = start
        self.goals = goals
        self.laps = {}
        # What was found of the lengths of the runs.
        self.lengths = Finding(program, steps_of_lengths(memory), start, goals)
        if self.lengths.greatest() == "endless":
            self.take(self.lengths.pump())

    def without_means(self):
        """None without runs, "short" if their lengths have a bound; there are means otherwise."""
        return None if self.lengths.greatest() is None else "short"

    def take(self, lap):
        """Takes down a lap."""
        gained = round_of(self.memory, self.program, self.start, self.goals, lap)
        self.laps[mean_of_run(gained)] = lap

    def greatest(self, price):
        """The greatest mean at a price of the laps that are known."""
        return greatest_of([mean_at_price(mean, price) for mean in self.laps])

    def climb(self, price):
        """Finds laps until none has a greater mean at a price: this mean, and what was found beside it."""
        while True:
            mean = self.greatest(price)
            finding = Finding(self.program, steps_beside(self.memory, price, mean), self.start, self.goals)
            if finding.greatest() != "endless":
                return (mean, finding)
            self.take(finding.pump())

    def best_mean(self, price):
        """The mean, as a triple, of a lap that has the greatest one at a price."""
        greatest, _ = self.climb(price)
        return [mean for mean in self.laps if mean_at_price(mean, price) == greatest][0]
