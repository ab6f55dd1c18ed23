"""Prices: what one unit of each of the two numbers is worth."""

from math import gcd

from hitclocks.errors import BadNumber, BadPair, BadPrice, NotAhead
from hitclocks.kinds import is_number, is_pair
from hitclocks.lines import crossing, goes_ahead, reduced, worth_at


def is_price(thing):
    """Whether any value is a price."""
    if not is_pair(thing):
        return False
    p, q = thing
    return p >= 0 and q >= 0 and gcd(p, q) == 1


def check_price(price):
    """BadPrice unless it is a price."""
    if not is_price(price):
        raise BadPrice("not a price")


def check_pair(pair):
    """BadPair unless it is a pair."""
    if not is_pair(pair):
        raise BadPair("not a tuple of two numbers")


def price_of(p, q):
    """The price with this ratio."""
    for number in (p, q):
        if not is_number(number) or number < 0:
            raise BadNumber("not a number from 0")
    if p == 0 and q == 0:
        raise BadNumber("both numbers are 0")
    return reduced(p, q)


def is_ahead(one, other):
    """Whether one price is ahead of the other one."""
    check_price(one)
    check_price(other)
    return goes_ahead(one, other)


def worth(pair, price):
    """What a pair is worth at a price."""
    check_pair(pair)
    check_price(price)
    return worth_at(pair, price)


def amid(one, other):
    """A price between two prices, of which one is ahead of the other."""
    check_price(one)
    check_price(other)
    if not goes_ahead(one, other):
        raise NotAhead("one is not ahead of other")
    return reduced(one[0] + other[0], one[1] + other[1])


def meeting(one, other):
    """The price at which two pairs are worth the same, or None."""
    check_pair(one)
    check_pair(other)
    return crossing(one, other)
