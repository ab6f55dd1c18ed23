"""Fronts: a number, endless, or nothing for each price."""

from hitclocks.errors import BadFront, BadNumber, BadPairs, BadPrice
from hitclocks.kinds import is_list, is_number, is_number_from, is_pair, is_tagged
from hitclocks.lines import AHEAD_OF_ALL, BEHIND_ALL, best_corners, goes_ahead, greatest_worth, reduced
from hitclocks.lines import summed_corners, trimmed, worth_at
from hitclocks.prices import is_price

ENDLESS = ("endless",)
ZERO = ("over", (1, 0), (0, 1), ((0, 0),))
MOST_REPEATED = 1000


def is_front(thing):
    """Whether any value is a front."""
    if thing is None or is_tagged(thing, "endless", 1):
        return True
    if is_tagged(thing, "at", 3):
        return is_price(thing[1]) and is_number(thing[2])
    if not is_tagged(thing, "over", 4):
        return False
    if not is_price(thing[1]) or not is_price(thing[2]) or not goes_ahead(thing[1], thing[2]):
        return False
    return are_corners(thing[3], thing[1], thing[2])


def are_corners(thing, low, high):
    """Whether it is a tuple of pairs, each one best somewhere between, in order."""
    if not isinstance(thing, tuple) or len(thing) == 0:
        return False
    for pair in thing:
        if not is_pair(pair):
            return False
    return best_corners(thing, low, high) == thing


def check_front(front):
    """BadFront unless it is a front."""
    if not is_front(front):
        raise BadFront("not a front")


def check_front_and_price(front, price):
    """BadFront, BadPrice."""
    check_front(front)
    if not is_price(price):
        raise BadPrice("not a price")


def is_over(front):
    """Whether a front has a stretch with corners."""
    return front is not None and front[0] == "over"


def is_in_stretch(price, low, high):
    """Whether a price is neither ahead of low nor behind high."""
    return not goes_ahead(price, low) and not goes_ahead(high, price)


def told_at(front, price):
    """As at_price, without checks."""
    if front is None:
        return None
    if front[0] == "at" and front[1] == price:
        return front[2]
    if front[0] == "over" and is_in_stretch(price, front[1], front[2]):
        return greatest_worth(front[3], price)
    return "endless"


def at_price(front, price):
    """What a front tells at a price: None for nothing, "endless", or the number."""
    check_front_and_price(front, price)
    return told_at(front, price)


def corners_told(front, price):
    """As corners_at, without checks."""
    if not is_over(front) or not is_in_stretch(price, front[1], front[2]):
        return ()
    most = greatest_worth(front[3], price)
    return tuple([corner for corner in front[3] if worth_at(corner, price) == most])


def corners_at(front, price):
    """The corners that are worth as much as the front tells at a price."""
    check_front_and_price(front, price)
    return corners_told(front, price)


def front_of(pairs):
    """The front of the greatest worth of some pairs."""
    if not is_list(pairs):
        raise BadPairs(None)
    for at, pair in enumerate(pairs):
        if not is_pair(pair):
            raise BadPairs(at)
    if len(pairs) == 0:
        return None
    return ("over", AHEAD_OF_ALL, BEHIND_ALL, best_corners(pairs, AHEAD_OF_ALL, BEHIND_ALL))


def stretch_of(front):
    """The first and the last price at which a front tells a number."""
    if front[0] == "at":
        return (front[1], front[1])
    return (front[1], front[2])


def common_stretch(one, other):
    """The first and the last price of both stretches, the first one behind the last one if there is none."""
    low, high = stretch_of(one)
    first, last = stretch_of(other)
    if goes_ahead(low, first):
        low = first
    if goes_ahead(last, high):
        high = last
    return (low, high)


def joined(one, other):
    """At each price the greater one of what two fronts tell."""
    check_front(one)
    check_front(other)
    return join_of(one, other)


def join_of(one, other):
    """As joined, without checks."""
    if one is None:
        return other
    if other is None or one == other:
        return one
    if one == ENDLESS or other == ENDLESS:
        return ENDLESS
    low, high = common_stretch(one, other)
    if low == high:
        return ("at", low, max(told_at(one, low), told_at(other, low)))
    if goes_ahead(low, high):
        return ("over", low, high, best_corners(one[3] + other[3], low, high))
    return ENDLESS


def summed(one, other):
    """At each price the sum of what two fronts tell."""
    check_front(one)
    check_front(other)
    return sum_of(one, other)


def sum_of(one, other):
    """As summed, without checks."""
    if one is None or other is None:
        return None
    if one == ENDLESS or other == ENDLESS:
        return ENDLESS
    low, high = common_stretch(one, other)
    if low == high:
        return ("at", low, told_at(one, low) + told_at(other, low))
    if goes_ahead(low, high):
        return ("over", low, high, summed_corners(trimmed(one[3], low, high), trimmed(other[3], low, high)))
    return ENDLESS


def repeated(front, number):
    """A front summed with itself so often."""
    check_front(front)
    if not is_number_from(number, 0, MOST_REPEATED):
        raise BadNumber("not a number from 0 to 1000")
    if number == 0:
        return ZERO
    if front is None or front == ENDLESS:
        return front
    if front[0] == "at":
        return ("at", front[1], number * front[2])
    corners = tuple([(number * a, number * b) for a, b in front[3]])
    return ("over", front[1], front[2], corners)


def any_times(front):
    """At each price the greatest that a front, repeated any number of times, tells."""
    check_front(front)
    return star_of(front)


def star_of(front):
    """As any_times, without checks."""
    if front is None:
        return ZERO
    if front == ENDLESS:
        return ENDLESS
    if front[0] == "at":
        return ("at", front[1], 0) if front[2] <= 0 else ENDLESS
    stretch = stretch_without_gain(front[3], front[1], front[2])
    if stretch is None:
        return ENDLESS
    low, high = stretch
    return ("at", low, 0) if low == high else ("over", low, high, ((0, 0),))


def stretch_without_gain(pairs, low, high):
    """The first and the last price, of those from low to high, at which no pair is worth more than 0; None if none."""
    for a, b in pairs:
        if a > 0 and b > 0:
            return None
        if a > 0 and goes_ahead(low, reduced(-b, a)):
            low = reduced(-b, a)
        if b > 0 and goes_ahead(reduced(b, -a), high):
            high = reduced(b, -a)
    return None if goes_ahead(high, low) else (low, high)


def is_below(one, other):
    """Whether at no price the first front is above the second one."""
    return joined(one, other) == other
