"""[2.1]: products of letters."""

import itertools
import random
import unittest

from pureladders.errors import InvalidNumber, InvalidProduct, Refused, TooMany
from pureladders.lot import products
from pureladders.lot.products import (
    all_products, degree_of, divisor_of, does_divide, is_product, multiple_of, product_times, quotient_of)
from tests.checked import LONGER, NO_INTEGERS, NO_PRODUCTS, CheckedTest

PAIRED = (does_divide, multiple_of, divisor_of, product_times, quotient_of)


def walked(letters, degree):
    """The products of a degree in the order of words, of all tuples."""
    found = [p for p in itertools.product(range(degree + 1), repeat=letters) if sum(p) == degree]
    return sorted(found, reverse=True)


class ProductsTest(CheckedTest):
    def test_constants(self):
        self.assertEqual((products.MAX_LETTERS, products.MAX_EXPONENT, products.MAX_LISTED_DEGREE), (8, 60, 12))

    def test_example(self):
        found = [multiple_of((2, 0, 1), (1, 1, 0)), divisor_of((2, 0, 1), (1, 1, 0)),
                 product_times((2, 0, 1), (1, 1, 0)), quotient_of((2, 1, 1), (1, 0, 1)), list(all_products(2, 3))]
        self.assertEqual(found, [(2, 1, 1), (1, 0, 0), (3, 1, 1), (1, 1, 0), [(3, 0), (2, 1), (1, 2), (0, 3)]])
        self.raises(Refused(("rest",)), quotient_of, (1, 0), (0, 1))

    def test_degrees(self):
        self.assertEqual([degree_of((0,)), degree_of((60,) * 8), degree_of((1, 2, 3))], [0, 480, 6])

    def test_by_exponents(self):
        chance = random.Random(21)
        for _ in range(400):
            letters = chance.randint(1, 8)
            one, other = [tuple(chance.randint(0, chance.choice((2, 60))) for _ in range(letters)) for _ in range(2)]
            pairs = list(zip(one, other))
            self.assertIs(does_divide(one, other), all(a <= b for a, b in pairs))
            self.assertEqual(multiple_of(one, other), tuple(map(max, one, other)))
            self.assertEqual(divisor_of(one, other), tuple(map(min, one, other)))
            both = tuple(a + b for a, b in pairs)
            if max(both) > 60:
                self.raises(TooMany(60), product_times, one, other)
            else:
                self.assertEqual(product_times(one, other), both)
                self.assertEqual(quotient_of(both, other), one)
            if all(a >= b for a, b in pairs):
                self.assertEqual(quotient_of(one, other), tuple(a - b for a, b in pairs))
            else:
                self.raises(Refused(("rest",)), quotient_of, one, other)

    def test_exponents_at_the_bound(self):
        self.assertEqual(product_times((59, 0), (1, 60)), (60, 60))
        self.raises(TooMany(60), product_times, (59, 0), (2, 0))
        self.raises(TooMany(60), product_times, (60,), (60,))
        self.assertIs(is_product(1, (60,)), True)
        self.assertIs(is_product(1, (61,)), False)
        self.raises(InvalidProduct, degree_of, (61,))

    def test_rests(self):
        self.assertEqual(quotient_of((3, 3), (3, 3)), (0, 0))
        self.raises(Refused(("rest",)), quotient_of, (3, 3), (3, 4))

    def test_is_product(self):
        for value in NO_PRODUCTS + ((1, 0, 0), (-1, 0), (0, LONGER)):
            self.assertIs(is_product(2, value), False)
        for letters in range(1, 9):
            self.assertIs(is_product(letters, (0,) * letters), True)
            self.assertIs(is_product(letters, (60,) * letters), True)
            self.assertIs(is_product(letters, (0,) * (letters + 1)), False)
        self.assertIs(is_product(2, (True, 0)), False)
        self.refuses_numbers(is_product, 1, 8, (0,))
        self.raises(InvalidNumber(0), is_product, 0, None)

    def test_wrong_products(self):
        for value in NO_PRODUCTS:
            self.raises(InvalidProduct, degree_of, value)
            for call in PAIRED:
                self.raises(InvalidProduct, call, value, (1, 0))
                self.raises(InvalidProduct, call, (1, 0), value)
                self.raises(InvalidProduct, call, value, value)
        for call in PAIRED:
            self.raises(InvalidProduct, call, (1, 0), (1, 0, 0))
            self.raises(InvalidProduct, call, (60, 1), (60,))

    def test_order_of_words(self):
        for letters in range(1, 5):
            for degree in range(6):
                self.assertEqual(list(all_products(letters, degree)), walked(letters, degree))
        self.assertEqual(list(all_products(2, 12)), walked(2, 12))
        self.assertEqual(list(all_products(3, 12)), walked(3, 12))
        for letters in range(1, 9):
            self.assertEqual(list(all_products(letters, 0)), [(0,) * letters])
        many = list(all_products(8, 12))
        self.assertEqual(len(many), 50388)
        self.assertEqual(many, sorted(set(many), reverse=True))
        self.assertEqual({sum(p) for p in many}, {12})

    def test_all_products_refuses_at_the_first_request(self):
        for value in NO_INTEGERS + (0, 9):
            self.raises(InvalidNumber(value), lambda: next(all_products(value, 3)))
        for value in NO_INTEGERS + (-1, 13):
            self.raises(InvalidNumber(value), lambda: next(all_products(3, value)))
        self.raises(InvalidNumber(0), lambda: next(all_products(0, 13)))
        waiting = all_products(0, 13)
        self.assertIs(iter(waiting), waiting)


if __name__ == "__main__":
    unittest.main()
