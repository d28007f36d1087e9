"""[3.1] to [3.6]: how many products a lot leaves."""

import itertools
import math
import random
import unittest

from pureladders.errors import InvalidLot, InvalidNumber, Refused, TooMany
from pureladders.lot.lots import Lot
from pureladders.row import counts
from pureladders.row.counts import (
    count_at, dimension, free_set, is_free_set, left_counts, left_products, numerator, steady_degree, steady_row, weight)
from tests.checked import EDGES, LONGER, NESTED, NO_INTEGERS, NO_LOTS, RING, SQUARES, CheckedTest

EMPTY, ALL = Lot(3, ()), Lot(3, ((0, 0, 0),))
OF_LOTS = (numerator, dimension, weight, steady_row, steady_degree, free_set)


def walked(letters, degree):
    return [p for p in itertools.product(range(degree + 1), repeat=letters) if sum(p) == degree]


def left(lot, degree):
    """The products of the degree that no least member divides, by a walk over all of them."""
    return [p for p in walked(lot.letters, degree) if not any(all(a <= b for a, b in zip(m, p)) for m in lot.members)]


def signed_sets(lot):
    """The numerator, by all sets of least members."""
    found = {}
    if lot.is_all:
        return found
    for size in range(len(lot) + 1):
        for chosen in itertools.combinations(lot.members, size):
            degree = sum(max(exponents) for exponents in zip(*chosen))
            found[degree] = found.get(degree, 0) + (-1) ** size
    return {degree: found[degree] for degree in sorted(found) if found[degree]}


def some_lots(seed, count, most=3):
    chance = random.Random(seed)
    for _ in range(count):
        letters = chance.randint(1, 4)
        members = [tuple(chance.randint(0, most) for _ in range(letters)) for _ in range(chance.randint(0, 7))]
        yield Lot(letters, tuple(members))


LOTS = list(some_lots(1, 60)) + [EMPTY, ALL, EDGES, SQUARES, RING, Lot(1, ()), Lot(1, ((0,),)), Lot(1, ((8,),))]


class CountsTest(CheckedTest):
    def test_constants(self):
        found = (counts.MOST_COUNTED, counts.MOST_FAR, counts.MOST_LISTED_LETTERS, counts.MOST_LISTED_DEGREE)
        self.assertEqual(found, (40, 1000000, 4, 12))

    def test_examples(self):
        self.assertEqual(
            [numerator(EDGES), left_counts(EDGES, 4), dimension(EDGES), weight(EDGES), steady_row(EDGES),
             steady_degree(EDGES)],
            [{0: 1, 2: -3, 3: 2}, (1, 4, 7, 10, 13), 2, 3, (1, 3), 0])
        self.assertEqual(
            [numerator(SQUARES), left_counts(SQUARES, 3), dimension(SQUARES), weight(SQUARES), steady_row(SQUARES),
             steady_degree(SQUARES)],
            [{0: 1, 2: -2, 4: 1}, (1, 2, 1, 0), 0, 4, (), 3])
        self.assertEqual(
            [left_counts(RING, 3), steady_row(RING), steady_degree(RING), count_at(RING, 1000000),
             left_products(SQUARES, 2)],
            [(1, 4, 8, 12), (0, 4), 1, 4000000, ((0, 2),)])
        self.assertEqual(
            [numerator(Lot(2, ())), dimension(Lot(2, ((0, 0),))), is_free_set(EDGES, (0, 2)),
             is_free_set(EDGES, (0, 1)), is_free_set(SQUARES, ())],
            [{0: 1}, -1, True, False, True])
        self.raises(Refused(("all",)), free_set, Lot(2, ((0, 0),)))

    def test_numerators_by_sets_of_members(self):
        for lot in LOTS:
            found = numerator(lot)
            self.assertEqual(found, signed_sets(lot), str(lot))
            self.assertEqual(list(found), sorted(found))

    def test_great_numerators(self):
        chance = random.Random(24)
        for degree in (2, 5, 9):
            rows = {tuple(sorted(chance.choices(range(8), k=degree)).count(i) for i in range(8)) for _ in range(24)}
            lot = Lot(8, tuple(rows))
            series = numerator(lot)
            for far in range(5):
                self.assertEqual(count_at(lot, far), len(left(lot, far)))
            self.assertEqual(sum(series.values()), 0)

    def test_numerators_are_not_shared(self):
        numerator(EDGES)[0] = 5
        self.assertEqual(numerator(EDGES), {0: 1, 2: -3, 3: 2})

    def test_counts_by_a_walk(self):
        for lot in LOTS:
            expected = tuple(len(left(lot, degree)) for degree in range(9))
            self.assertEqual(left_counts(lot, 8), expected)
            self.assertEqual(left_counts(lot, 0), expected[:1])
            for degree in range(9):
                self.assertEqual(count_at(lot, degree), expected[degree])
                self.assertEqual(left_products(lot, degree), tuple(sorted(left(lot, degree))))

    def test_bounds_of_degrees(self):
        self.assertEqual(len(left_counts(EDGES, 40)), 41)
        self.assertEqual(left_counts(EMPTY, 40)[40], math.comb(42, 2))
        self.assertEqual(count_at(EMPTY, 1000000), math.comb(1000002, 2))
        self.assertEqual(count_at(ALL, 1000000), 0)
        self.assertEqual(left_products(EMPTY, 12), tuple(sorted(walked(3, 12))))
        self.assertEqual(left_products(Lot(4, ()), 12), tuple(sorted(walked(4, 12))))
        self.assertEqual(left_products(ALL, 0), ())

    def test_more_than_four_letters(self):
        five = Lot(5, ((1, 0, 0, 0, 0),))
        self.assertEqual(left_counts(five, 3), (1, 4, 10, 20))
        self.raises(TooMany(4), left_products, five, 0)
        self.raises(TooMany(4), left_products, five, 12)
        self.raises(InvalidNumber(13), left_products, five, 13)
        self.raises(TooMany(4), left_products, Lot(8, ()), 1)

    def test_a_product_splits_the_counts(self):
        for lot in LOTS[:40]:
            for u in itertools.product(range(3), repeat=lot.letters):
                if sum(u) > 3:
                    continue
                both = lot + Lot(lot.letters, (u,))
                for degree in range(7):
                    rest = count_at(lot.quotient(u), degree - sum(u)) if degree >= sum(u) else 0
                    self.assertEqual(count_at(lot, degree), count_at(both, degree) + rest)

    def test_free_sets_and_dimensions(self):
        for lot in LOTS:
            free = [chosen for size in range(lot.letters + 1)
                    for chosen in itertools.combinations(range(lot.letters), size)
                    if not any(all(i in chosen for i, e in enumerate(m) if e) for m in lot.members)]
            most = max(map(len, free), default=-1)
            self.assertEqual(dimension(lot), most)
            if lot.is_all:
                self.raises(Refused(("all",)), free_set, lot)
                self.raises(Refused(("all",)), is_free_set, lot, ())
                continue
            self.assertIn(free_set(lot), free)
            self.assertIs(is_free_set(lot, free_set(lot)), True)
            for size in range(lot.letters + 1):
                for chosen in itertools.combinations(range(lot.letters), size):
                    self.assertIs(is_free_set(lot, chosen), len(chosen) == most and chosen in free)

    def test_which_free_sets_are_taken(self):
        for value in (None, True, 1, LONGER, "02", [0, 2], {}, {0: 2}, (2, 0), (0, 0), (0, 2, 2), (0, 4), (-1, 2), (0,),
                      (), (0, LONGER), (0, "2"), (False, 2), (0, None), ((0,), 2), NESTED, EDGES, (EDGES, EDGES)):
            self.assertIs(is_free_set(EDGES, value), False)
        self.assertIs(is_free_set(Lot(2, ((1, 0),)), (True,)), False)
        self.assertIs(is_free_set(Lot(2, ((1, 0),)), (1,)), True)
        self.assertIs(is_free_set(EMPTY, (0, 1, 2)), True)

    def test_steady_rows(self):
        for lot in LOTS:
            row, start, size = steady_row(lot), steady_degree(lot), dimension(lot)
            self.assertEqual(len(row), max(size, 0))

            def told(degree):
                return sum(number * math.comb(degree, at) for at, number in enumerate(row))

            far = start + 30
            found = [count_at(lot, degree) for degree in range(far)]
            self.assertEqual(found[start:], [told(degree) for degree in range(start, far)])
            self.assertEqual(count_at(lot, 999999), told(999999))
            if start > 0:
                self.assertNotEqual(found[start - 1], told(start - 1))
            series = numerator(lot)
            self.assertLessEqual(start, max([0] + [j - lot.letters + 1 for j in series]))
            if size == 0:
                self.assertEqual((row, weight(lot)), ((), sum(found)))
            elif size > 0:
                self.assertGreater(row[-1], 0)
                self.assertEqual(weight(lot), row[-1])

    def test_weights_by_numerators(self):
        for lot in LOTS:
            series = numerator(lot)
            if not series:
                self.assertEqual(weight(lot), 0)
                continue
            numbers = [series.get(degree, 0) for degree in range(max(series) + 1)]
            for _ in range(lot.letters - dimension(lot)):
                self.assertEqual(sum(numbers), 0)
                numbers = list(itertools.accumulate(numbers))
            self.assertEqual(sum(numbers), weight(lot))

    def test_empty_and_all(self):
        self.assertEqual([numerator(ALL), left_counts(ALL, 2), dimension(ALL), weight(ALL), steady_row(ALL),
                          steady_degree(ALL)], [{}, (0, 0, 0), -1, 0, (), 0])
        self.assertEqual([numerator(EMPTY), left_counts(EMPTY, 2), dimension(EMPTY), weight(EMPTY), steady_row(EMPTY),
                          steady_degree(EMPTY), free_set(EMPTY)], [{0: 1}, (1, 3, 6), 3, 1, (1, 2, 1), 0, (0, 1, 2)])

    def test_no_steady_numbers(self):
        lot = Lot(2, ((3, 0), (0, 2)))
        self.assertEqual([steady_row(lot), steady_degree(lot), weight(lot), dimension(lot)], [(), 4, 6, 0])
        self.assertEqual([steady_degree(Lot(1, ((8,),))), weight(Lot(1, ((8,),)))], [8, 8])

    def test_great_exponents(self):
        line = Lot(2, ((8, 0), (0, 8))).power(4)
        self.assertEqual(max(line.members), (32, 0))
        self.assertEqual(numerator(line), {0: 1, 32: -5, 40: 4})
        self.assertEqual(sum(left_counts(line, 40)), weight(line))

    def test_none_of_these_is_true(self):
        one, other = Lot(2, ((2, 0), (0, 2))), Lot(2, ((2, 0), (1, 1), (0, 3)))
        self.assertEqual(left_counts(one, 9), left_counts(other, 9))
        self.assertNotEqual(len(one), len(other))
        self.assertGreater(numerator(EDGES)[3], 0)

    def test_wrong_lots(self):
        for value in NO_LOTS:
            for call in OF_LOTS:
                self.raises(InvalidLot, call, value)
            for call in (left_counts, count_at, left_products, is_free_set):
                self.raises(InvalidLot, call, value, 1)
                self.raises(InvalidLot, call, value, None)

    def test_wrong_degrees(self):
        for call, most in ((left_counts, 40), (count_at, 1000000), (left_products, 12)):
            for value in NO_INTEGERS + (-1, most + 1):
                self.raises(InvalidNumber(value), call, SQUARES, value)
                self.raises(InvalidNumber(value), call, Lot(5, ()), value)


if __name__ == "__main__":
    unittest.main()
