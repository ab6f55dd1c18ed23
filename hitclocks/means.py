"""What runs cost by the letter in the long run, at one price."""

from hitclocks.averages import Averages
from hitclocks.cases import check_case, check_triples
from hitclocks.prices import check_price


def averaged(memory, program, start, goals, price):
    """What is known of the means at first, with the errors of mean_at."""
    check_case(memory, program, start, goals)
    check_price(price)
    check_triples(memory, program)
    return Averages(memory, program, start, goals)


def mean_at(memory, program, start, goals, price):
    """The greatest mean of rounds: None without runs, "short" if lengths have a bound, otherwise a fraction."""
    averages = averaged(memory, program, start, goals, price)
    return averages.climb(price)[0] if averages.laps else averages.without_means()


def margin_at(memory, program, start, goals, price):
    """The most that a run costs beside the greatest mean; None if there is no mean."""
    averages = averaged(memory, program, start, goals, price)
    return averages.climb(price)[1].greatest() if averages.laps else None


def margin_tale(memory, program, start, goals, price):
    """A tale of a run that costs so much beside the greatest mean; None if there is no mean."""
    averages = averaged(memory, program, start, goals, price)
    return averages.climb(price)[1].tale() if averages.laps else None
