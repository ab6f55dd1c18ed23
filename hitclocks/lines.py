"""Prices and pairs without checks: worths, meetings, and the greatest of many pairs."""

from math import gcd

AHEAD_OF_ALL = (1, 0)
BEHIND_ALL = (0, 1)


def reduced(p, q):
    """The price with this ratio of two numbers from 0, not both 0."""
    common = gcd(p, q)
    return (p // common, q // common)


def goes_ahead(one, other):
    """Whether one price is ahead of the other one."""
    return one[0] * other[1] > other[0] * one[1]


def worth_at(pair, price):
    """What a pair is worth at a price."""
    return price[0] * pair[0] + price[1] * pair[1]


def added_pairs(one, other):
    """The sum of two pairs, by places."""
    return (one[0] + other[0], one[1] + other[1])


def crossing(one, other):
    """The price at which two pairs are worth the same; None if there is none or they are equal."""
    a = one[0] - other[0]
    b = one[1] - other[1]
    if a < 0:
        a, b = -a, -b
    if a > 0 and b <= 0:
        return reduced(-b, a)
    if a == 0 and b != 0:
        return AHEAD_OF_ALL
    return None


def in_price_order(prices):
    """The different ones of these prices, each ahead of the next one."""
    widest = 1
    for p, q in prices:
        widest = max(widest, p + q)
    # Shares q : (p + q) of two prices are further apart than 1 : scale, so that their floors differ.
    scale = (widest + 1) * (widest + 1)
    shares = {}
    for p, q in prices:
        shares[q * scale // (p + q)] = (p, q)
    return [shares[share] for share in sorted(shares)]


def best_corners(pairs, low, high):
    """The corners of the greatest worth of the pairs, strictly between two prices, those ahead first."""
    return trimmed(hull(pairs), low, high)


def trimmed(corners, low, high):
    """The corners that are best strictly between two prices, of ones that are so between prices further apart."""
    first = 0
    last = len(corners) - 1
    while first < last and worth_at(corners[first], low) <= worth_at(corners[first + 1], low):
        first += 1
    while first < last and worth_at(corners[last], high) <= worth_at(corners[last - 1], high):
        last -= 1
    return tuple(corners[first:last + 1])


def hull(pairs):
    """The corners of the greatest worth strictly between (1, 0) and (0, 1), those ahead first."""
    corners = []
    for pair in sorted(pairs, reverse=True):
        # A pair behind one with no lesser a needs a greater b to be best anywhere.
        if corners and corners[-1][1] >= pair[1]:
            continue
        while len(corners) > 1 and not is_needed(corners[-2], corners[-1], pair):
            corners.pop()
        corners.append(pair)
    return corners


def is_needed(before, corner, behind):
    """Whether a corner alone is best somewhere between its neighbours: it meets the first one ahead of the other."""
    ahead = (corner[1] - before[1]) * (corner[0] - behind[0])
    return ahead > (behind[1] - corner[1]) * (before[0] - corner[0])


def summed_corners(ones, others):
    """The corners of the sum of two rows of corners over one stretch."""
    if len(others) == 1:
        a, b = others[0]
        return tuple([(one[0] + a, one[1] + b) for one in ones])
    first = second = 0
    corners = [added_pairs(ones[0], others[0])]
    while first + 1 < len(ones) or second + 1 < len(others):
        if second + 1 == len(others):
            first += 1
        elif first + 1 == len(ones):
            second += 1
        else:
            one = slope(ones, first)
            other = slope(others, second)
            # Both go on where they meet their next ones at one price: between there is no corner of the sum.
            if not goes_ahead(other, one):
                first += 1
            if not goes_ahead(one, other):
                second += 1
        corners.append(added_pairs(ones[first], others[second]))
    return tuple(corners)


def slope(corners, at):
    """The price at which a corner and the next one meet, perhaps with a common divisor."""
    one, other = corners[at], corners[at + 1]
    return (other[1] - one[1], one[0] - other[0])


def neighbours_meet(corners):
    """The prices at which neighbours of these corners meet, those ahead first."""
    return [crossing(corners[at], corners[at + 1]) for at in range(len(corners) - 1)]


def greatest_worth(pairs, price):
    """The greatest worth of one or more pairs at a price."""
    return max([worth_at(pair, price) for pair in pairs])
