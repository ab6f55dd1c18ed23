"""Means at all prices, and what shows them."""

from math import gcd, lcm

from hitclocks.averages import Averages, steps_of_lengths
from hitclocks.cases import check_case, check_triples
from hitclocks.errors import BadMeans
from hitclocks.fronts import stretch_without_gain
from hitclocks.kinds import has_just_keys, is_list, is_number, is_tuple_of
from hitclocks.laps import holds_beside, mean_of_lap
from hitclocks.lines import AHEAD_OF_ALL, BEHIND_ALL, best_corners, crossing, goes_ahead
from hitclocks.papers import holds_paying, paper_of, shown_by
from hitclocks.prices import check_price, is_price
from hitclocks.ratios import greatest_of, is_fraction, is_greater, mean_at_price
from hitclocks.showings import pair_of_run

KEYS = ("laps", "means", "papers", "runs")
NO_MEAN = (0, 1)


def is_mean_front(thing):
    """Whether any value is a mean front."""
    if thing is None or isinstance(thing, str) and thing == "short":
        return True
    if not isinstance(thing, tuple) or len(thing) == 0:
        return False
    for corner in thing:
        if not is_mean(corner):
            return False
    return are_in_order(thing)


def is_mean(thing):
    """Whether any value is a triple of two numbers and one from 1, without a common divisor of all three."""
    if not is_tuple_of(thing, 3):
        return False
    for number in thing:
        if not is_number(number):
            return False
    return thing[2] >= 1 and gcd(thing[0], thing[1], thing[2]) == 1


def are_in_order(corners):
    """Whether each of these means alone is greatest somewhere between its neighbours, those ahead first."""
    before = AHEAD_OF_ALL
    for at in range(len(corners) - 1):
        # Less by the first number and greater by the second one: both are the same somewhere strictly between.
        a, b = scaled_difference(corners[at], corners[at + 1])
        if a <= 0 or b >= 0:
            return False
        price = meeting_of(corners[at], corners[at + 1])
        if at > 0 and not goes_ahead(before, price):
            return False
        before = price
    return True


def scaled_difference(one, other):
    """What one mean has more than the other one, by both numbers, as far as its sign tells."""
    return (one[0] * other[2] - other[0] * one[2], one[1] * other[2] - other[1] * one[2])


def meeting_of(one, other):
    """The price at which two means are the same; None if there is none or they are equal."""
    return crossing(scaled_difference(one, other), (0, 0))


def check_means(means):
    """BadMeans unless it is a mean front."""
    if not is_mean_front(means):
        raise BadMeans("not a mean front")


def mean_worth(means, price):
    """What a mean front tells at a price: None, "short", or a fraction."""
    check_means(means)
    check_price(price)
    return told_mean(means, price)


def told_mean(means, price):
    """As mean_worth, without checks."""
    if not isinstance(means, tuple):
        return means
    return greatest_of([mean_at_price(corner, price) for corner in means])


def mean_prices(means):
    """The list of both ends and the prices at which neighbours are the same, in order; [] without corners."""
    check_means(means)
    return prices_of(means)


def prices_of(means):
    """As mean_prices, without checks."""
    if not isinstance(means, tuple):
        return []
    return [AHEAD_OF_ALL] + [meeting_of(means[at], means[at + 1]) for at in range(len(means) - 1)] + [BEHIND_ALL]


def no_gain(means):
    """The first and the last price at which the mean is at most 0; None if there is none."""
    check_means(means)
    pairs = [corner[:2] for corner in means] if isinstance(means, tuple) else []
    return stretch_without_gain(pairs, AHEAD_OF_ALL, BEHIND_ALL)


def mean_front(memory, program, start, goals):
    """The mean front that is, at each price, the greatest mean."""
    check_case(memory, program, start, goals)
    check_triples(memory, program)
    return means_of(Averages(memory, program, start, goals))


def means_of(averages):
    """As mean_front, found by asking at prices."""
    if not averages.laps:
        return averages.without_means()
    first = averages.best_mean(AHEAD_OF_ALL)
    last = averages.best_mean(BEHIND_ALL)
    found = [first, last]
    parts = [(AHEAD_OF_ALL, first, BEHIND_ALL, last)]
    while parts:
        low, one, high, other = parts.pop()
        if are_same_at(one, other, low) or are_same_at(one, other, high):
            continue
        price = meeting_of(one, other)
        mean = averages.best_mean(price)
        if is_greater(mean_at_price(mean, price), mean_at_price(one, price)):
            found.append(mean)
            parts.append((low, one, price, mean))
            parts.append((price, mean, high, other))
    return corners_of(found)


def are_same_at(one, other, price):
    """Whether two means are the same at a price."""
    return mean_at_price(one, price) == mean_at_price(other, price)


def corners_of(found):
    """The corners of a mean front, of some means."""
    common = 1
    for mean in found:
        common = lcm(common, mean[2])
    named = {}
    for a, b, many in found:
        named[(a * (common // many), b * (common // many))] = (a, b, many)
    return tuple([named[pair] for pair in best_corners(list(named), AHEAD_OF_ALL, BEHIND_ALL)])


def mean_showing(memory, program, start, goals):
    """The mean front, with laps, papers and runs that show it."""
    check_case(memory, program, start, goals)
    check_triples(memory, program)
    averages = Averages(memory, program, start, goals)
    means = means_of(averages)
    if isinstance(means, tuple):
        papers = []
        for price in prices_of(means):
            mean, finding = averages.climb(price)
            papers.append((price, mean, paper_of(finding)))
        return {"laps": [averages.laps[corner] for corner in means], "means": means, "papers": papers, "runs": []}
    papers = [(AHEAD_OF_ALL, NO_MEAN, paper_of(averages.lengths))]
    runs = [] if means is None else [averages.lengths.tale()]
    return {"laps": [], "means": means, "papers": papers, "runs": runs}


def is_mean_showing(memory, program, start, goals, thing):
    """Whether any value is a showing of a mean front."""
    check_case(memory, program, start, goals)
    check_triples(memory, program)
    if not isinstance(thing, dict) or not has_just_keys(thing, KEYS) or not is_mean_front(thing["means"]):
        return False
    for key in ("laps", "papers", "runs"):
        if not is_list(thing[key]):
            return False
    means = thing["means"]
    laps = [mean_of_lap(memory, program, start, goals, lap) for lap in thing["laps"]]
    runs = [pair_of_run(memory, program, start, goals, tale) for tale in thing["runs"]]
    prices = prices_of(means) if isinstance(means, tuple) else [AHEAD_OF_ALL]
    if None in runs or len(runs) != (1 if means == "short" else 0) or len(thing["papers"]) != len(prices):
        return False
    if tuple(laps) != (means if isinstance(means, tuple) else ()):
        return False
    for price, item in zip(prices, thing["papers"]):
        if not is_paper_shown(memory, program, start, goals, means, price, item):
            return False
    return True


def is_paper_shown(memory, program, start, goals, means, price, thing):
    """Whether any value is the price, the mean there, and a paper that shows what the means tell."""
    if not is_tuple_of(thing, 3) or not is_price(thing[0]) or thing[0] != price or not is_fraction(thing[1]):
        return False
    paper = thing[2]
    if isinstance(means, tuple):
        if thing[1] != told_mean(means, price) or not holds_beside(memory, program, price, thing[1], paper):
            return False
        return is_number(shown_by(paper, program.first, start, goals))
    if thing[1] != NO_MEAN or not holds_paying(memory, program, steps_of_lengths(memory), paper):
        return False
    shown = shown_by(paper, program.first, start, goals)
    return shown is None if means is None else is_number(shown)
