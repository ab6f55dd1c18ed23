"""Laps, which have a mean, and papers that no mean is greater."""

from hitclocks.averages import steps_beside
from hitclocks.cases import check_case, check_triples
from hitclocks.errors import BadLap, BadMean, BadPaper
from hitclocks.means import averaged
from hitclocks.memories import check_memory
from hitclocks.papers import holds_paying, paper_of, shown_by
from hitclocks.prices import check_price
from hitclocks.programs import check_program_over
from hitclocks.pumps import round_of
from hitclocks.ratios import is_fraction, mean_of_run


def mean_of_lap(memory, program, start, goals, thing):
    """The mean, as a triple, if any value is a lap; otherwise None."""
    gained = round_of(memory, program, start, goals, thing)
    return None if gained is None or gained.length == 0 else mean_of_run(gained)


def is_lap(memory, program, start, goals, thing):
    """Whether any value is a lap."""
    check_case(memory, program, start, goals)
    check_triples(memory, program)
    return mean_of_lap(memory, program, start, goals, thing) is not None


def mean_of(memory, program, start, goals, lap):
    """What the round of a lap pays for how many letters, without a common divisor."""
    check_case(memory, program, start, goals)
    check_triples(memory, program)
    mean = mean_of_lap(memory, program, start, goals, lap)
    if mean is None:
        raise BadLap("not a lap")
    return mean


def lap_at(memory, program, start, goals, price):
    """A lap that has the greatest mean at a price; None if there is no mean."""
    averages = averaged(memory, program, start, goals, price)
    return averages.laps[averages.best_mean(price)] if averages.laps else None


def check_mean(mean):
    """BadMean unless it is a fraction."""
    if not is_fraction(mean):
        raise BadMean("not a fraction")


def is_mean_paper(memory, program, price, mean, thing):
    """Whether any value is a mean paper that holds for a price and a fraction."""
    check_memory(memory)
    check_program_over(memory, program)
    check_price(price)
    check_mean(mean)
    check_triples(memory, program)
    return holds_beside(memory, program, price, mean, thing)


def holds_beside(memory, program, price, mean, thing):
    """As is_mean_paper, without checks of what it is for."""
    return holds_paying(memory, program, steps_beside(memory, price, mean), thing)


def shown_margin(memory, program, start, goals, price, mean, paper):
    """What a mean paper shows of the runs: None for none, "open", or a number that none of them exceeds."""
    check_case(memory, program, start, goals)
    check_price(price)
    check_mean(mean)
    check_triples(memory, program)
    if not holds_beside(memory, program, price, mean, paper):
        raise BadPaper("not a mean paper that holds for the price and the fraction")
    return shown_by(paper, program.first, start, goals)


def mean_paper(memory, program, start, goals, price):
    """A mean paper for the greatest mean, which shows just the margin; None if there is no mean."""
    averages = averaged(memory, program, start, goals, price)
    return paper_of(averages.climb(price)[1]) if averages.laps else None
