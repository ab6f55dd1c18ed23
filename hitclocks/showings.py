"""Showings: runs, papers and pumps that show a front for all prices."""

from hitclocks.cases import check_case, check_triples
from hitclocks.findings import Finding
from hitclocks.fronts import ENDLESS, is_front, is_over, stretch_of, told_at
from hitclocks.kinds import has_just_keys, is_list, is_tuple_of
from hitclocks.lines import AHEAD_OF_ALL, BEHIND_ALL, crossing, worth_at
from hitclocks.papers import holds, paper_of, shown_by
from hitclocks.prices import is_price
from hitclocks.pumps import gain_of
from hitclocks.searches import steps_at
from hitclocks.telling import last_run
from hitclocks.wholes import asker_of, critical_prices

KEYS = ("front", "papers", "pumps", "runs")


def showing(memory, program, start, goals):
    """The front of the most, with runs, papers and pumps that show it."""
    check_case(memory, program, start, goals)
    check_triples(memory, program)
    asker = asker_of(memory, program, start, goals)
    front = asker.front()
    papers = []
    for price in critical_prices(front):
        papers.append((price, paper_of(Finding(program, steps_at(memory, price), start, goals))))
    return {
        "front": front,
        "papers": papers,
        "pumps": showing_gains(front, asker.pumps),
        "runs": showing_corners(front, asker.tales),
    }


def showing_corners(front, told):
    """What shows the corners, of what was told for pairs."""
    if front is None or front == ENDLESS:
        return []
    if is_over(front):
        return [told[corner] for corner in front[3]]
    return [told[pair] for pair in told if worth_at(pair, front[1]) == front[2]][:1]


def showing_gains(front, told):
    """What shows what is endless, of what was told for gains, in the order in which by_asking was told them."""
    if front is None:
        return []
    if front == ENDLESS:
        return showing_endless(told)
    low, high = stretch_of(front)
    shown = []
    if low != AHEAD_OF_ALL:
        shown.append(told[[pair for pair in told if ends_at_low(pair, low)][0]])
    if high != BEHIND_ALL:
        shown.append(told[[pair for pair in told if begins_at_high(pair, high)][0]])
    return shown


def showing_endless(told):
    """One or two of what was told for gains, of which at each price one gains."""
    gains = list(told)
    # Each round but the last one gains ahead of a price at which the next one gains; the last one from there on.
    if gain_everywhere(gains[-1:]):
        return [told[gains[-1]]]
    return [told[pair] for pair in gains[-2:]]


def ends_at_low(pair, low):
    """Whether a gain is worth 0 at low and more ahead of it."""
    return worth_at(pair, low) == 0 and pair[0] > 0


def begins_at_high(pair, high):
    """Whether a gain is worth 0 at high and more behind it."""
    return worth_at(pair, high) == 0 and pair[1] > 0


def gain_everywhere(gains):
    """Whether at each price one of one or two gains is worth more than 0."""
    prices = [AHEAD_OF_ALL, BEHIND_ALL]
    meets = crossing(gains[0], gains[-1])
    if meets is not None:
        prices.append(meets)
    for price in prices:
        if max([worth_at(pair, price) for pair in gains]) <= 0:
            return False
    return True


def is_showing(memory, program, start, goals, thing):
    """Whether any value is a showing."""
    check_case(memory, program, start, goals)
    check_triples(memory, program)
    if not isinstance(thing, dict) or not has_just_keys(thing, KEYS) or not is_front(thing["front"]):
        return False
    if not is_list(thing["runs"]) or not is_list(thing["papers"]) or not is_list(thing["pumps"]):
        return False
    front = thing["front"]
    gains = [gain_of(memory, program, start, goals, item) for item in thing["pumps"]]
    if not show_gains(front, gains) or front == ENDLESS and not gain_somewhere(gains):
        return False
    if not show_corners(front, [pair_of_run(memory, program, start, goals, item) for item in thing["runs"]]):
        return False
    prices = critical_prices(front)
    if len(thing["papers"]) != len(prices):
        return False
    for price, item in zip(prices, thing["papers"]):
        if not is_paper_at(memory, program, start, goals, front, price, item):
            return False
    return True


def pair_of_run(memory, program, start, goals, thing):
    """The pair of the last entry if any value is a tale that ends with a run to a goal; otherwise None."""
    run = last_run(memory, program, thing, False)
    if run is None or run.head != (program.first,) or run.start != start or run.end not in goals:
        return None
    return (run.first, run.second)


def show_corners(front, pairs):
    """Whether these pairs, None for what has none, are those of the corners."""
    if front is None or front == ENDLESS:
        return len(pairs) == 0
    if is_over(front):
        return tuple(pairs) == front[3]
    return len(pairs) == 1 and pairs[0] is not None and worth_at(pairs[0], front[1]) == front[2]


def show_gains(front, gains):
    """Whether these gains, None for what has none, show what is endless."""
    if None in gains:
        return False
    if front is None:
        return len(gains) == 0
    if front == ENDLESS:
        return 1 <= len(gains) <= 2 and gain_everywhere(gains)
    low, high = stretch_of(front)
    rest = list(gains)
    if low != AHEAD_OF_ALL:
        if not rest or not ends_at_low(rest[0], low):
            return False
        rest = rest[1:]
    if high != BEHIND_ALL:
        if not rest or not begins_at_high(rest[0], high):
            return False
        rest = rest[1:]
    return len(rest) == 0


def gain_somewhere(gains):
    """Whether each of these gains is worth more than 0 at some price."""
    return min([max(pair) for pair in gains]) > 0


def is_paper_at(memory, program, start, goals, front, price, thing):
    """Whether any value is the price with a paper that shows there what the front tells."""
    if not is_tuple_of(thing, 2) or not is_price(thing[0]) or thing[0] != price:
        return False
    if not holds(memory, program, price, thing[1]):
        return False
    return shown_by(thing[1], program.first, start, goals) == told_at(front, price)
