"""Fractions as pairs (top, bottom) in lowest terms with a bottom above 0."""

from math import gcd


def lowest_pair(top, bottom):
    """The pair of the fraction top / bottom; the bottom may be below 0, but not 0."""
    divisor = gcd(top, bottom)
    if bottom < 0:
        divisor = -divisor
    return top // divisor, bottom // divisor


def pair_text(pair):
    """The text of a fraction: with a slash only if the bottom is above 1."""
    top, bottom = pair
    if bottom == 1:
        return str(top)
    return f"{top}/{bottom}"
