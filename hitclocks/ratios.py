"""Fractions, and means of rounds: what a round pays by the letter."""

from math import gcd

from hitclocks.kinds import is_pair
from hitclocks.lines import worth_at


def is_fraction(thing):
    """Whether any value is a pair of a number and one from 1, without a common divisor above 1."""
    return is_pair(thing) and thing[1] >= 1 and gcd(thing[0], thing[1]) == 1


def fraction_of(number, many):
    """The fraction of a number and one from 1."""
    common = gcd(number, many)
    return (number // common, many // common)


def is_greater(one, other):
    """Whether one fraction is greater than the other one."""
    return one[0] * other[1] > other[0] * one[1]


def greatest_of(fractions):
    """The greatest one of one or more fractions."""
    greatest = fractions[0]
    for fraction in fractions[1:]:
        if is_greater(fraction, greatest):
            greatest = fraction
    return greatest


def mean_at_price(mean, price):
    """The fraction that a mean, a triple of two numbers that are paid for so many letters, is worth at a price."""
    return fraction_of(worth_at(mean[:2], price), mean[2])


def mean_of_run(run):
    """The mean of a run of one or more letters: its pair and length, without a common divisor."""
    common = gcd(run.first, run.second, run.length)
    return (run.first // common, run.second // common, run.length // common)
