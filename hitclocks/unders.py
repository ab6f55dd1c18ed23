"""Pairs under a front, and the prices between which fronts keep their order."""

from math import gcd

from hitclocks.errors import BadFronts
from hitclocks.fronts import check_front, corners_told, is_front, is_over, told_at
from hitclocks.kinds import is_list, is_number, is_number_from, is_tuple_of
from hitclocks.lines import AHEAD_OF_ALL, BEHIND_ALL, crossing, in_price_order, neighbours_meet, worth_at
from hitclocks.prices import check_pair

MOST_FRONTS = 24


def bends(front):
    """The prices at which the front of a stretch begins, bends and ends."""
    return [front[1]] + neighbours_meet(front[3]) + [front[2]]


def price_above(front, pair):
    """As above, without checks."""
    if front is None:
        return AHEAD_OF_ALL
    if front[0] == "endless":
        return None
    # Between two bends both are lines, so that one of the bends shows the pair above if anything does.
    prices = bends(front) if is_over(front) else [front[1]]
    for price in prices:
        if worth_at(pair, price) > told_at(front, price):
            return price
    return None


def above(front, pair):
    """A price at which a pair is worth more than a front tells; None if it is under it."""
    check_front(front)
    check_pair(pair)
    return price_above(front, pair)


def excesses(front, corner, pair):
    """What a corner is worth more than a pair at both ends of the stretch."""
    low = worth_at(corner, front[1]) - worth_at(pair, front[1])
    high = worth_at(corner, front[2]) - worth_at(pair, front[2])
    return (low, high)


def mix(front, pair):
    """Two corners and their parts that show a pair under a front; None if there is no such mix."""
    check_front(front)
    check_pair(pair)
    if not is_over(front) or price_above(front, pair) is not None:
        return None
    ends = [excesses(front, corner, pair) for corner in front[3]]
    for at, (low, high) in enumerate(ends):
        if low >= 0 and high >= 0:
            return (1, at, 0)
    at = 0
    while ends[at + 1][0] >= 0:
        at += 1
    # With these parts the sum is worth as much at low as at high, and so the least that it can be.
    many = ends[at + 1][1] - ends[at + 1][0]
    more = ends[at][0] - ends[at][1]
    common = gcd(many, more)
    return (many // common, at, more // common)


def is_mix(front, pair, thing):
    """Whether the front has a stretch and any value is a mix for the pair."""
    check_front(front)
    check_pair(pair)
    if not is_over(front) or not is_tuple_of(thing, 3):
        return False
    many, at, more = thing
    for number in thing:
        if not is_number(number) or number < 0:
            return False
    corners = front[3]
    if many == 0 and more == 0 or not is_number_from(at, 0, len(corners) - 1):
        return False
    if more == 0:
        return min(excesses(front, corners[at], pair)) >= 0
    if at + 1 == len(corners):
        return False
    low, high = excesses(front, corners[at], pair)
    next_low, next_high = excesses(front, corners[at + 1], pair)
    return many * low + more * next_low >= 0 and many * high + more * next_high >= 0


def turning_prices(fronts):
    """The prices between which each front is one line and no two of them change their order."""
    if not is_list(fronts) or len(fronts) > MOST_FRONTS:
        raise BadFronts(None)
    for at, front in enumerate(fronts):
        if not is_front(front):
            raise BadFronts(at)
    prices = [AHEAD_OF_ALL, BEHIND_ALL]
    for at, front in enumerate(fronts):
        if is_over(front):
            prices.extend(bends(front))
            for other in fronts[at + 1:]:
                prices.extend(changes(front, other))
        elif front is not None and front[0] == "at":
            prices.append(front[1])
    return in_price_order(prices)


def changes(front, other):
    """The prices at which two fronts tell the same by one corner each, not the same one."""
    if not is_over(other):
        return []
    prices = []
    for corner in front[3]:
        for rival in other[3]:
            price = crossing(corner, rival)
            if price is None or corners_told(front, price) != (corner,):
                continue
            if corners_told(other, price) == (rival,):
                prices.append(price)
    return prices
