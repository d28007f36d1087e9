"""Primes, choices and common divisors."""

from math import comb, gcd

from pureladders.base.checks import are_all_passed, check_passed, check_within
from pureladders.errors import InvalidOperation

MAX_ASKED = 10000
MAX_TOP = 200
MAX_NUMBERS = 1000


def is_prime(number):
    """Whether the number, from 0 to 10,000, is a prime."""
    check_within(number, 0, MAX_ASKED)
    return has_two_divisors(number)


def has_two_divisors(number):
    """Whether the integer is a prime."""
    if number < 2:
        return False
    divisor = 2
    while divisor * divisor <= number:
        if number % divisor == 0:
            return False
        divisor += 1
    return True


def prime_divisors(number):
    """The ascending list of the primes that divide an integer above 0."""
    found = []
    divisor = 2
    while number > 1:
        if number % divisor == 0:
            number //= divisor
            if divisor not in found:
                found.append(divisor)
        else:
            divisor += 1
    return found


def binomial(top, bottom):
    """How many choices of `bottom` things out of `top` there are."""
    check_within(top, 0, MAX_TOP)
    check_passed(bottom)
    return choices(top, bottom)


def choices(top, bottom):
    """The binomial of integers without bounds; 0 if `bottom` is not from 0 to `top`."""
    if bottom < 0 or bottom > top:
        return 0
    return comb(top, bottom)


def common_divisor(numbers):
    """The greatest integer that divides all of the numbers; 0 if all of them are 0."""
    if not are_all_passed(numbers) or len(numbers) > MAX_NUMBERS:
        raise InvalidOperation("no tuple of at most 1000 integers")
    return greatest_divisor(numbers)


def greatest_divisor(numbers):
    """The greatest common divisor of a list or tuple of integers."""
    found = 0
    for number in numbers:
        found = gcd(found, number)
    return found
