"""Tuples of exponents, without checks and without bounds.

Products are checked where they are passed; inside the package some tuples
have exponents that no product may have (in a power of a lot, or behind a move).
"""

from pureladders.base.checks import is_within


def are_exponents(value, letters, most):
    """Whether the value is a tuple of so many integers from 0 to `most`."""
    if not isinstance(value, tuple) or len(value) != letters:
        return False
    return all([is_within(exponent, 0, most) for exponent in value])


def nothing(letters):
    """The exponents of the product of degree 0."""
    return (0,) * letters


def fits(one, other):
    """Whether `one` divides `other`."""
    for low, high in zip(one, other):
        if low > high:
            return False
    return True


def greater(one, other):
    """The common multiple."""
    return tuple([max(a, b) for a, b in zip(one, other)])


def lesser(one, other):
    """The common divisor."""
    return tuple([min(a, b) for a, b in zip(one, other)])


def added(one, other):
    """The product of both."""
    return tuple([a + b for a, b in zip(one, other)])


def taken_off(one, other):
    """What is left of `one` if as much of `other` as it has is taken off it."""
    return tuple([max(a - b, 0) for a, b in zip(one, other)])
