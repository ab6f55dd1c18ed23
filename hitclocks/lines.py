"""Prices and pairs without checks: worths, meetings, and the greatest of many pairs."""

from math import gcd

AHEAD_OF_ALL = (1, 0)
BEHIND_ALL = (0, 1)


def reduced(p, q):
    """The price with this ratio of two numbers from 0, not both 0."""
    common = gcd(p, q)
    return (p // common, q // common)


def goes_ahead(one, other):
    """Whether one price is ahead of the other one."""
    return one[0] * other[1] > other[0] * one[1]


def worth_at(pair, price):
    """What a pair is worth at a price."""
    return price[0] * pair[0] + price[1] * pair[1]


def added_pairs(one, other):
    """The sum of two pairs, by places."""
    return (one[0] + other[0], one[1] + other[1])


def crossing(one, other):
    """The price at which two pairs are worth the same; None if there is none or they are equal."""
    a = one[0] - other[0]
    b = one[1] - other[1]
    if a < 0:
        a, b = -a, -b
    if a > 0 and b <= 0:
        return reduced(-b, a)
    if a == 0 and b != 0:
        return AHEAD_OF_ALL
    return None


def in_price_order(prices):
    """The different ones of these prices, each ahead of the next one."""
    widest = 1
    for p, q in prices:
        widest = max(widest, p + q)
    # Shares q : (p + q) of two prices are further apart than 1 : scale, so that their floors differ.
    scale = (widest + 1) * (widest + 1)
    shares = {}
    for p, q in prices:
        shares[q * scale // (p + q)] = (p, q)
    return [shares[share] for share in sorted(shares)]


def best_corners(pairs, low, high):
    """The corners of the greatest worth of the pairs, strictly between two prices, those ahead first."""
    corners = hull(pairs)
    first = 0
    last = len(corners) - 1
    while first < last and not goes_ahead(low, crossing(corners[first], corners[first + 1])):
        first += 1
    while first < last and not goes_ahead(crossing(corners[last - 1], corners[last]), high):
        last -= 1
    return tuple(corners[first:last + 1])


def hull(pairs):
    """The corners of the greatest worth strictly between (1, 0) and (0, 1), those ahead first."""
    corners = []
    for pair in sorted(pairs, reverse=True):
        # A pair behind one with no lesser a needs a greater b to be best anywhere.
        if corners and corners[-1][1] >= pair[1]:
            continue
        while len(corners) > 1 and not is_needed(corners[-2], corners[-1], pair):
            corners.pop()
        corners.append(pair)
    return corners


def is_needed(before, corner, behind):
    """Whether a corner alone is best somewhere between its neighbours."""
    return goes_ahead(crossing(before, corner), crossing(corner, behind))


def neighbours_meet(corners):
    """The prices at which neighbours of these corners meet, those ahead first."""
    return [crossing(corners[at], corners[at + 1]) for at in range(len(corners) - 1)]


def greatest_worth(pairs, price):
    """The greatest worth of one or more pairs at a price."""
    return max([worth_at(pair, price) for pair in pairs])
