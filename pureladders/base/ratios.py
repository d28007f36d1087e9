"""Fractions as pairs (top, bottom) in lowest terms with a bottom above 0."""

from math import gcd


def lowest_pair(top, bottom):
    """The pair of the fraction top / bottom, whose bottom is above 0."""
    divisor = gcd(top, bottom)
    return top // divisor, bottom // divisor


def pair_text(pair):
    """The text of a fraction: with a slash only if the bottom is above 1."""
    top, bottom = pair
    if bottom == 1:
        return str(top)
    return f"{top}/{bottom}"
