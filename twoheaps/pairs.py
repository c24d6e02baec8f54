"""The lost pairs of a bound: which one has a number, and in which one a number is."""

from math import isqrt

from twoheaps.checks import check_bound, check_number

# With s the square root of bound * bound + 4, the lesser number of pair n is
# n * (s + 2 - bound) / 2, rounded down. The factor is irrational and more than
# 1, and 1 / factor + 1 / (factor + bound) is 1: hence the lesser numbers and
# the other ones together are just all whole numbers above 0, each once.
# A whole number may be added and a whole divisor may divide after the root is
# rounded down: the result rounded down is the same, so no fraction is needed.


def pair_by(bound, number):
    """The lost pair of this number, the lesser number first."""
    check_bound(bound)
    check_number(number, 0)
    lesser = (_times_root(bound, number) - number * (bound - 2)) // 2
    return (lesser, lesser + bound * number)


def pair_with(bound, number):
    """The number of the lost pair that this number is in."""
    check_bound(bound)
    check_number(number, 1)
    # Of the numbers from 1 to this one, so many are the lesser of their pair,
    # and all others are the other one of theirs.
    lessers = _lessers_below(bound, number + 1)
    if pair_by(bound, lessers)[0] == number:
        return lessers
    return number - lessers


def number_of(bound, heaps):
    """The number of the lost pair that these heaps are in either turn, or None."""
    number = abs(heaps[0] - heaps[1]) // bound
    if pair_by(bound, number) == (min(heaps), max(heaps)):
        return number
    return None


def _times_root(bound, number):
    """The number times the square root of bound * bound + 4, rounded down."""
    return isqrt(number * number * (bound * bound + 4))


def _lessers_below(bound, end):
    """How many whole numbers above 0 and below the end are the lesser of their pair."""
    # 1 / factor is (s + bound - 2) / (2 * bound).
    return (_times_root(bound, end) + end * (bound - 2)) // (2 * bound)
