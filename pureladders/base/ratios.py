"""Fractions as pairs (top, bottom) in lowest terms with a bottom above 0."""

from math import gcd

from pureladders.base.checks import is_number, is_passed
from pureladders.errors import TooMany

MAX_DIGITS = 60


def lowest_pair(top, bottom):
    """The pair of the fraction top / bottom, whose bottom is above 0."""
    divisor = gcd(top, bottom)
    return top // divisor, bottom // divisor


def pair_text(pair):
    """The text of a fraction: with a slash only if the bottom is above 1."""
    top, bottom = pair
    if bottom == 1:
        return str(top)
    return f"{top}/{bottom}"


def pair_sum(one, other):
    """The sum of two fractions."""
    return lowest_pair(one[0] * other[1] + other[0] * one[1], one[1] * other[1])


def pair_product(one, other):
    """The product of two fractions."""
    return lowest_pair(one[0] * other[0], one[1] * other[1])


def is_less(one, other):
    """Whether the one fraction is less than the other one."""
    return one[0] * other[1] < other[0] * one[1]


def least_pair(pairs):
    """The least of some fractions."""
    least = pairs[0]
    for pair in pairs:
        if is_less(pair, least):
            least = pair
    return least


def is_above_zero(value):
    """Whether the value is a fraction above 0, with integers of any length."""
    if not isinstance(value, tuple) or len(value) != 2:
        return False
    if not is_number(value[0]) or not is_number(value[1]):
        return False
    return value[0] > 0 and value[1] > 0 and gcd(value[0], value[1]) == 1


def is_short(pair):
    """Whether both integers of a fraction have at most sixty digits."""
    return is_passed(pair[0]) and is_passed(pair[1])


def check_short(pairs):
    """Refuse fractions with an integer of more than sixty digits."""
    if not all([is_short(pair) for pair in pairs]):
        raise TooMany(MAX_DIGITS)
