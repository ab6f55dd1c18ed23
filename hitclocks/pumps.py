"""Pumps: rounds that gain, on the way of some run."""

from hitclocks.cases import check_case, check_triples
from hitclocks.dearest import found
from hitclocks.kinds import is_tuple_of
from hitclocks.lines import worth_at
from hitclocks.prices import check_price
from hitclocks.telling import last_run


def pump(memory, program, start, goals, price):
    """A way, a round that gains, and a rest; None unless the most is endless."""
    finding = found(memory, program, start, goals, price)
    if finding.greatest() != "endless":
        return None
    return finding.pump()


def is_pump(memory, program, start, goals, price, thing):
    """Whether any value is a pump at a price."""
    check_case(memory, program, start, goals)
    check_price(price)
    check_triples(memory, program)
    gained = gain_of(memory, program, start, goals, thing)
    return gained is not None and worth_at(gained, price) > 0


def gain_of(memory, program, start, goals, thing):
    """The pair of the round if any value is a pump but for what its round is worth; otherwise None."""
    gained = round_of(memory, program, start, goals, thing)
    return None if gained is None else (gained.first, gained.second)


def round_of(memory, program, start, goals, thing):
    """What the round tells if any value is a pump but for what its round is worth; otherwise None."""
    if not is_tuple_of(thing, 3):
        return None
    way, lap, rest = thing
    gained = last_run(memory, program, lap, True)
    ahead = last_run(memory, program, way, True)
    inner = last_run(memory, program, rest, False)
    if gained is None or ahead is None or inner is None:
        return None
    if len(lap) < 2 or len(way) < 2 or way[0] != lap[0] or gained.gaps != 1 or ahead.gaps < 1:
        return None
    if place_of(gained) != lap[0][1:] or place_of(inner) != lap[0][1:]:
        return None
    if ahead.head != (program.first,) or ahead.start != start or ahead.end not in goals:
        return None
    return gained


def place_of(run):
    """The head of a run, where it begins and where it ends."""
    return (run.head, run.start, run.end)
