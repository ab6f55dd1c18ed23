"""The dearest runs at one price."""

from hitclocks.cases import check_case, check_triples
from hitclocks.findings import Finding
from hitclocks.prices import check_price
from hitclocks.searches import steps_at


def found(memory, program, start, goals, price):
    """The finding for these runs at a price, with the errors of most_at."""
    check_case(memory, program, start, goals)
    check_price(price)
    check_triples(memory, program)
    return Finding(program, steps_at(memory, price), start, goals)


def most_at(memory, program, start, goals, price):
    """The greatest worth of a run: None without runs, "endless" without a bound."""
    return found(memory, program, start, goals, price).greatest()


def dearest(memory, program, start, goals, price):
    """A tale whose last entry is a run of the greatest worth; None if that is no number."""
    finding = found(memory, program, start, goals, price)
    if finding.greatest() is None or finding.greatest() == "endless":
        return None
    return finding.tale()
