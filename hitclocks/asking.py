"""A front found by asking what it tells at single prices."""

from hitclocks.lines import AHEAD_OF_ALL, BEHIND_ALL, best_corners, crossing, reduced, worth_at


def by_asking(asks):
    """The front of which asks tells what is there at a price."""
    low, answer = low_end(asks)
    if answer is None:
        return None
    if answer[0] == "gains":
        return ("endless",)
    high, last = high_end(asks, low, answer)
    if low == high:
        return ("at", low, worth_at(answer[1], low))
    pairs = known_pairs(asks, low, answer[1], high, last[1])
    return ("over", low, high, best_corners(pairs, low, high))


def low_end(asks):
    """The first price at which the front is not endless, with the answer there; a gain if there is none."""
    price = AHEAD_OF_ALL
    answer = asks(price)
    while answer is not None and answer[0] == "gains":
        a, b = answer[1]
        # What is gained here and at (0, 1) is gained from here on; and what is ahead was gained before.
        if b > 0:
            break
        price = reduced(-b, a)
        answer = asks(price)
    return (price, answer)


def high_end(asks, low, first):
    """The last price at which the front is not endless, with the answer there; low and first at the latest."""
    price = BEHIND_ALL
    while price != low:
        answer = asks(price)
        if answer[0] != "gains":
            return (price, answer)
        a, b = answer[1]
        price = reduced(b, -a)
    return (low, first)


def known_pairs(asks, low, first, high, last):
    """Pairs of which one is worth what the front tells, at each price from low to high."""
    pairs = [first, last]
    parts = [(low, first, high, last)]
    while parts:
        start, one, end, other = parts.pop()
        if worth_at(one, end) == worth_at(other, end) or worth_at(one, start) == worth_at(other, start):
            continue
        price = crossing(one, other)
        pair = asks(price)[1]
        if worth_at(pair, price) > worth_at(one, price):
            pairs.append(pair)
            parts.append((start, one, price, pair))
            parts.append((price, pair, end, other))
    return pairs
