"""`pureladders.base.integers`: primes, choices and common divisors."""

import math
import unittest

from pureladders.base import integers
from pureladders.base.integers import binomial, common_divisor, is_prime
from pureladders.errors import InvalidNumber, InvalidOperation
from tests.checked import LONG, NO_INTEGERS, SIXTY, CheckedTest


class IntegersTest(CheckedTest):
    def test_constants(self):
        self.assertEqual((integers.MAX_ASKED, integers.MAX_TOP), (10000, 200))

    def test_example(self):
        found = [is_prime(91), is_prime(97), binomial(5, 2), binomial(3, 4), binomial(0, 0),
                 common_divisor((12, -18, 0)), common_divisor(())]
        self.assertEqual(found, [False, True, 10, 0, 1, 6, 0])

    def test_all_primes_to_the_bound(self):
        primes = [number for number in range(2, 10001) if all(number % k for k in range(2, math.isqrt(number) + 1))]
        self.assertEqual([number for number in range(10001) if is_prime(number)], primes)
        for number in (0, 1, 2, 4, 9973, 10000):
            self.assertIs(is_prime(number), number in primes)

    def test_is_prime_refuses(self):
        self.refuses_numbers(is_prime, 0, 10000)

    def test_binomials(self):
        for top in (0, 1, 2, 7, 40, 199, 200):
            for bottom in range(-3, top + 4):
                expected = math.comb(top, bottom) if bottom >= 0 else 0
                self.assertEqual(binomial(top, bottom), expected)
        self.assertEqual([binomial(5, SIXTY), binomial(5, -SIXTY)], [0, 0])

    def test_binomial_refuses(self):
        self.refuses_numbers(binomial, 0, 200, 1)
        for value in NO_INTEGERS:
            self.raises(InvalidNumber(value), binomial, 5, value)
        self.raises(InvalidNumber(201), binomial, 201, None)
        self.raises(InvalidNumber("a"), binomial, "a", "b")

    def test_common_divisors(self):
        self.assertEqual(common_divisor((0, 0)), 0)
        self.assertEqual(common_divisor((-7,)), 7)
        self.assertEqual(common_divisor((SIXTY, -SIXTY, 0)), SIXTY)
        self.assertEqual(common_divisor((6, 10, 15)), 1)
        self.assertEqual(common_divisor((4,) * 1000), 4)

    def test_common_divisor_refuses(self):
        for value in (None, 1, True, "12", [1, 2], {}, {1: 2}, (1, True), (None,), (1, LONG), (-LONG,), ((1,),),
                      (4,) * 1001, ("1",)):
            self.raises(InvalidOperation, common_divisor, value)


if __name__ == "__main__":
    unittest.main()
