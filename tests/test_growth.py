"""[4.1] to [4.7]: word places, growth of rows, and first lots."""

import itertools
import math
import random
import unittest

from pureladders.errors import InvalidLot, InvalidNumber, InvalidOperation, InvalidProduct, InvalidRow, Refused, TooMany
from pureladders.lot.lots import Lot
from pureladders.lot.products import all_products
from pureladders.part.parts import table_of
from pureladders.row import growth
from pureladders.row.counts import count_at, left_counts, numerator
from pureladders.row.growth import (
    first_lot, first_lot_like, first_products, growth_bound, is_first_lot, is_met, met_from, product_at, row_bar,
    shares, word_place)
from pureladders.row.shares import bound_of
from pureladders.stable.lots import is_strongly_stable
from pureladders.table.tables import Table
from tests.checked import (
    EDGES, LONG, LONGER, NESTED, NO_INTEGERS, NO_LOTS, NO_PRODUCTS, RING, SIXTY, SQUARES, CheckedTest, each,
    each_number)

EMPTY, ALL = Lot(3, ()), Lot(3, ((0, 0, 0),))
# None of these is a tuple of integers from 0 on.
NO_ROWS = (
    None, True, 1, LONGER, "13", (), [1, 3], {}, {1: 3}, (1, -1), (-1,), (1, True), (False,), (1, None), (1, "3"),
    (1, LONG), ((1,), 3), NESTED, EDGES, (1, EDGES))


def some_lots(seed, count, most=3, letters=4):
    chance = random.Random(seed)
    for _ in range(count):
        many = chance.randint(1, letters)
        members = [tuple(chance.randint(0, most) for _ in range(many)) for _ in range(chance.randint(0, 6))]
        yield Lot(many, tuple(members))


LOTS = list(some_lots(4, 60)) + [EMPTY, ALL, EDGES, SQUARES, RING, Lot(1, ()), Lot(1, ((0,),)), Lot(1, ((8,),))]


def products_of(letters, degree):
    return list(all_products(letters, degree))


def members_of(lot, degree):
    """The products of the degree in the lot, in the order of words."""
    return [product for product in products_of(lot.letters, degree) if product in lot]


def multiples_of(products):
    """All products one degree higher that one of these divides."""
    found = set()
    for product in products:
        for at in range(len(product)):
            found.add(product[:at] + (product[at] + 1,) + product[at + 1:])
    return found


def rows_of_all_lots(letters, last):
    """The rows to the degree `last` of all lots, by all closed sets of products."""
    rows = set()
    waiting = [((), frozenset())]
    while waiting:
        row, before = waiting.pop()
        if len(row) > last:
            rows.add(row)
            continue
        products = products_of(letters, len(row))
        bound = multiples_of(before)
        free = [product for product in products if product not in bound]
        for size in range(len(free) + 1):
            for chosen in itertools.combinations(free, size):
                waiting.append((row + (len(free) - size,), frozenset(bound.union(chosen))))
    return rows


class WordPlacesTest(CheckedTest):
    def test_constants(self):
        found = (growth.MAX_DEGREE, growth.MAX_TOLD, growth.MAX_ROW, growth.MOST_FIRST_LETTERS)
        self.assertEqual(found, (60, 1000, 7, 4))

    def test_examples(self):
        self.assertEqual(
            [shares(5, 2), growth_bound(5, 2), shares(10, 3), growth_bound(10, 3), shares(0, 4), growth_bound(0, 4)],
            [((3, 2), (2, 1)), 7, ((5, 3),), 15, (), 0])
        self.assertEqual(
            [word_place((0, 2, 1)), product_at(3, 3, 7), first_products(2, 3, 3), row_bar(3, (1, 3, 5, 7)),
             row_bar(3, (1, 3, 5, 8)), row_bar(3, (1, 4)), row_bar(2, (0, 0, 1))],
            [7, (0, 2, 1), ((3, 0), (2, 1), (1, 2)), None, 3, 1, 2])
        self.assertEqual(
            first_lot(3, (1, 3, 4, 2)).members, ((0, 2, 1), (0, 3, 0), (1, 0, 2), (1, 1, 0), (2, 0, 0)))
        self.assertEqual(
            [is_met(EDGES, 3), is_met(EDGES, 4), met_from(EDGES), first_lot_like(EDGES).members,
             is_first_lot(SQUARES)],
            [False, True, 4,
             ((0, 3, 1, 0), (0, 4, 0, 0), (1, 0, 0, 2), (1, 0, 1, 0), (1, 1, 0, 0), (2, 0, 0, 0)), True])
        self.raises(Refused(("row", 2)), first_lot, 2, (1, 2, 4))

    def test_places_among_all_products(self):
        for letters in range(1, 9):
            for degree in range(13 if letters < 4 else 8 if letters < 6 else 5):
                products = products_of(letters, degree)
                self.assertEqual(products, sorted(products, reverse=True))
                for place, product in enumerate(products):
                    self.assertEqual(word_place(product), place)
                    self.assertEqual(product_at(letters, degree, place), product)
                for many in {0, 1, len(products) // 2, len(products) - 1, len(products)}:
                    if many <= 1000:
                        self.assertEqual(first_products(letters, degree, many), tuple(products[:many]))
                self.raises(InvalidNumber(len(products)), product_at, letters, degree, len(products))
                self.raises(InvalidNumber(len(products) + 1), first_products, letters, degree, len(products) + 1)

    def test_places_at_great_degrees(self):
        self.assertEqual([word_place((place, 60 - place)) for place in range(60, -1, -1)], list(range(61)))
        products = sorted(
            [(a, b, 60 - a - b) for a in range(61) for b in range(61 - a)], reverse=True)
        for place in range(0, len(products), 7):
            self.assertEqual(word_place(products[place]), place)
            self.assertEqual(product_at(3, 60, place), products[place])
        self.assertEqual(first_products(3, 60, 1000), tuple(products[:1000]))
        self.raises(InvalidNumber(1001), first_products, 3, 60, 1001)
        last = math.comb(67, 7) - 1
        self.assertEqual([product_at(8, 60, 0), product_at(8, 60, last)], [(60,) + (0,) * 7, (0,) * 7 + (60,)])
        self.raises(InvalidNumber(last + 1), product_at, 8, 60, last + 1)
        chance = random.Random(60)
        for _ in range(100):
            letters, degree = chance.randint(1, 8), chance.randint(0, 60)
            place = chance.randrange(math.comb(degree + letters - 1, letters - 1))
            product = product_at(letters, degree, place)
            self.assertEqual((len(product), sum(product), word_place(product)), (letters, degree, place))

    def test_no_products(self):
        self.assertEqual([first_products(3, 5, 0), first_products(1, 60, 0), first_products(1, 60, 1)], [(), (), ((60,),)])
        self.assertEqual([first_products(8, 0, 1), product_at(8, 0, 0)], [((0,) * 8,), (0,) * 8])
        self.raises(InvalidNumber(2), first_products, 1, 60, 2)

    def test_places_of_high_products(self):
        """Behind the degree 60 products with greater exponents than a product can have are counted, too."""
        self.assertEqual(word_place((60, 40)), 40)
        self.assertEqual(word_place((60,) * 3), sum(math.comb(k + 1, 1) for k in range(120)) + 60)

    def test_wrong_places(self):
        self.refuses(word_place, ((1, 2),), [(0, each(InvalidProduct, NO_PRODUCTS))])
        letters = (0, each_number(NO_INTEGERS + (0, 9)))
        degree = (1, each_number(NO_INTEGERS + (-1, 61)))
        self.refuses(product_at, (3, 3, 7), [letters, degree, (2, each_number(NO_INTEGERS + (-1, 10)))])
        self.refuses(first_products, (3, 3, 7), [letters, degree, (2, each_number(NO_INTEGERS + (-1, 11, 1001)))])
        self.refuses(first_products, (3, 60, 7), [(2, each_number((1001, 1891, SIXTY)))])


class SharesTest(CheckedTest):
    def check_shares(self, number, degree):
        found = shares(number, degree)
        self.assertEqual([bottom for _, bottom in found], list(range(degree, degree - len(found), -1)))
        self.assertTrue(all(top >= bottom >= 1 for top, bottom in found))
        tops = [top for top, _ in found]
        self.assertEqual(tops, sorted(set(tops), reverse=True))
        self.assertEqual(sum(math.comb(top, bottom) for top, bottom in found), number)
        bound = sum(math.comb(top + 1, bottom + 1) for top, bottom in found)
        self.assertEqual(growth_bound(number, degree), bound)
        return bound

    def test_shares(self):
        for degree in range(1, 9):
            bounds = [self.check_shares(number, degree) for number in range(150)]
            self.assertEqual(bounds, sorted(bounds))
        chance = random.Random(2)
        for _ in range(200):
            self.check_shares(chance.randint(0, 1000000), chance.randint(1, 60))

    def test_shares_at_the_bounds(self):
        for number in (0, 1, 59, 60, 61, 62, 999999, 1000000):
            for degree in (1, 2, 59, 60):
                self.check_shares(number, degree)
        self.assertEqual([shares(1000000, 1), growth_bound(1000000, 1)], [((1000000, 1),), 1000001 * 500000])
        self.assertEqual([shares(60, 60), growth_bound(60, 60)], [tuple((k, k) for k in range(60, 0, -1)), 60])
        self.assertEqual(shares(61, 60), ((61, 60),))

    def test_bounds_are_what_first_products_leave(self):
        for letters in range(1, 5):
            for degree in range(1, 5):
                products, higher = products_of(letters, degree), products_of(letters, degree + 1)
                for many in range(len(products) + 1):
                    taken = multiples_of(products[:many])
                    self.assertEqual(growth_bound(len(products) - many, degree), len(higher) - len(taken))

    def test_wrong_shares(self):
        for call in (shares, growth_bound):
            self.refuses(call, (0, 1), [
                (0, each_number(NO_INTEGERS + (-1, 1000001))), (1, each_number(NO_INTEGERS + (0, -1, 61)))])


class RowsTest(CheckedTest):
    def test_rows_of_lots_have_no_bar(self):
        for lot in LOTS:
            row = left_counts(lot, 12)
            for last in range(13):
                self.assertIsNone(row_bar(lot.letters, row[:last + 1]))

    def test_rows_of_all_lots(self):
        for letters, last, most in ((1, 4, 2), (2, 3, 5), (3, 2, 8)):
            rows = rows_of_all_lots(letters, last)
            for row in itertools.product(*[range(min(most, k + 3) if k else 3) for k in range(last + 1)]):
                prefixes = [row[:k + 1] for k in range(last + 1)]
                shown = [any(one[:len(prefix)] == prefix for one in rows) for prefix in prefixes]
                self.assertEqual(row_bar(letters, row), None if all(shown) else shown.index(False), (letters, row))

    def test_bent_rows(self):
        for lot in LOTS:
            row = left_counts(lot, 10)
            for at in range(11):
                most = 1 if at == 0 else lot.letters * row[0] if at == 1 else growth_bound(row[at - 1], at - 1)
                self.assertIsNone(row_bar(lot.letters, row[:at] + (most,)))
                self.assertEqual(row_bar(lot.letters, row[:at] + (most + 1,) + row[at + 1:]), at)
                self.assertEqual(row_bar(lot.letters, row[:at] + (1000000,) + row[at + 1:]), at)

    def test_ends_of_rows(self):
        self.assertEqual([row_bar(1, (0,)), row_bar(8, (1,)), row_bar(8, (2,)), row_bar(8, (1000000,))], [None, None, 0, 0])
        self.assertEqual([row_bar(2, (1, 0, 0)), row_bar(2, (1, 0, 1)), row_bar(2, (0,) * 40)], [None, 2, None])
        self.assertIsNone(row_bar(2, tuple(range(1, 41))))
        self.assertEqual(row_bar(2, tuple(range(1, 40)) + (41,)), 39)

    def test_wrong_rows(self):
        letters = (0, each_number(NO_INTEGERS + (0, 9)))
        rows = NO_ROWS + ((1,) * 41, (1, 1000001), (1, SIXTY))
        self.refuses(row_bar, (3, (1, 3, 6)), [letters, (1, each(InvalidRow, rows))])
        row_bar(3, (1,) * 40)


class FirstLotsTest(CheckedTest):
    def check_first(self, lot, row):
        last = len(row) - 1
        self.assertEqual(left_counts(lot, last), row)
        for degree, number in enumerate(row):
            products = products_of(lot.letters, degree)
            self.assertEqual(members_of(lot, degree), products[:len(products) - number])
        self.assertTrue(all(degree <= last for degree in lot.degrees))
        self.assertTrue(is_strongly_stable(lot))
        if last >= 1:
            for degree in range(last, 14):
                self.assertEqual(count_at(lot, degree + 1), growth_bound(count_at(lot, degree), degree))

    def test_first_lots_of_the_rows_of_lots(self):
        for lot in LOTS + list(some_lots(9, 40, most=2)):
            for last in (0, 1, 2, 4, 6):
                row = left_counts(lot, last)
                try:
                    first = first_lot(lot.letters, row)
                except TooMany as error:
                    self.assertEqual(error.most, 24)
                    self.assertGreater(self.number_of_new(lot.letters, row), 24)
                    continue
                self.check_first(first, row)
                self.assertEqual(Lot(lot.letters, first.members), first)
                self.assertLessEqual(self.number_of_new(lot.letters, row), 24)

    def number_of_new(self, letters, row):
        """How many least members the first lot has, by sets of products."""
        before, many = set(), 0
        for degree, number in enumerate(row):
            products = products_of(letters, degree)
            here = set(products[:len(products) - number])
            many += len(here - multiples_of(before))
            before = here
        return many

    def test_ends_of_first_lots(self):
        self.assertEqual(first_lot(3, (0,)), ALL)
        self.assertEqual(first_lot(3, (0, 0, 0, 0, 0, 0, 0)), ALL)
        self.assertEqual(first_lot(3, (1,)), EMPTY)
        self.assertEqual(first_lot(3, (1, 3, 6)), EMPTY)
        self.assertEqual(first_lot(4, (1, 0)).members, ((0, 0, 0, 1), (0, 0, 1, 0), (0, 1, 0, 0), (1, 0, 0, 0)))
        self.assertEqual(first_lot(1, (1, 1, 1, 0)).members, ((3,),))
        self.assertEqual(first_lot(2, (1, 2, 3, 4, 5, 6, 0)).members, tuple((k, 6 - k) for k in range(7)))

    def test_twenty_four_least_members(self):
        self.assertEqual(len(first_lot(4, (1, 4, 10, 20, 11))), 24)
        self.raises(TooMany(24), first_lot, 4, (1, 4, 10, 20, 10))
        self.assertEqual(len(first_lot(3, (1, 3, 6, 10, 15, 21, 4))), 24)
        self.raises(TooMany(24), first_lot, 3, (1, 3, 6, 10, 15, 21, 3))

    def test_wrong_first_lots(self):
        self.refuses(
            first_lot, (3, (1, 3, 6)),
            [(0, each_number(NO_INTEGERS + (0, 5))), (1, each(InvalidRow, NO_ROWS + ((1,) * 8,)))],
            [((3, (2,)), Refused(("row", 0))), ((3, (1, 4)), Refused(("row", 1))),
             ((3, (1, 3, 7)), Refused(("row", 2))), ((3, (0, 0, 0, 0, 0, 0, 1)), Refused(("row", 6))),
             ((4, (1, 4, 10, 20, 0, 1)), Refused(("row", 5))), ((4, (1, 4, 10, 20, 10)), TooMany(24)),
             ((3, (1, 3, 1000001)), Refused(("row", 2))), ((3, (SIXTY,)), Refused(("row", 0)))])


class MetTest(CheckedTest):
    def test_degrees_at_which_bounds_are_met(self):
        for lot in LOTS:
            for degree in range(1, 12):
                met = count_at(lot, degree + 1) == growth_bound(count_at(lot, degree), degree)
                self.assertIs(is_met(lot, degree), met)

    def test_least_degree_from_which_bounds_are_met(self):
        for lot in LOTS:
            if not is_met(lot, 60):
                self.raises(TooMany(60), met_from, lot)
                continue
            start = met_from(lot)
            self.assertGreaterEqual(start, max((1,) + lot.degrees))
            self.assertTrue(all(is_met(lot, degree) for degree in range(start, 61)))
            self.assertTrue(start == 1 or not is_met(lot, start - 1))

    def test_bounds_met_ahead_of_a_least_member(self):
        lot = Lot(2, ((2, 0), (0, 4)))
        self.assertEqual([is_met(lot, 2), is_met(lot, 3)], [True, False])
        self.assertEqual([met_from(lot), is_met(lot, 4)], [5, False])
        far = Lot(2, ((8, 0),)) * Lot(2, ((8, 0),)) + Lot(2, ((0, 1),))
        self.assertEqual([is_met(far, 1), is_met(far, 14), is_met(far, 15), is_met(far, 16)], [True, True, False, True])
        self.assertEqual(met_from(far), 16)

    def test_bounds_of_great_numbers(self):
        self.assertEqual([met_from(Lot(8, ())), is_met(Lot(8, ()), 60), met_from(ALL)], [1, True, 1])
        line = Lot(8, ((8,) + (0,) * 7,))
        self.assertEqual(met_from(line), 8)
        self.assertIs(is_met(line, 60), True)
        self.assertEqual(count_at(line, 61), bound_of(count_at(line, 60), 60))

    def test_bounds_met_from_sixty_on(self):
        points = Lot(3, ((6, 0, 0),)) + Lot(3, ((0, 8, 0),)) * Lot(3, ((0, 2, 0),))
        self.assertEqual([met_from(points), is_met(points, 59), is_met(points, 60)], [60, False, True])
        more = Lot(3, ((8, 0, 0), (5, 7, 0), (0, 8, 0)))
        self.assertEqual(left_counts(more, 30)[29:], (61, 61))
        self.assertIs(is_met(more, 60), False)
        self.raises(TooMany(60), met_from, more)
        high = Lot(2, ((8, 8),)).power(4)
        self.raises(TooMany(60), met_from, high)
        self.assertEqual(met_from(Lot(1, ((8,),)).power(4)), 32)

    def test_wrong_degrees(self):
        self.refuses(is_met, (EDGES, 1), [
            (0, each(InvalidLot, NO_LOTS)), (1, each_number(NO_INTEGERS + (0, -1, 61)))])
        self.refuses(met_from, (EDGES,), [(0, each(InvalidLot, NO_LOTS))],
                     [((Lot(3, ((8, 0, 0), (0, 8, 0))),), TooMany(60))])


class LikeTest(CheckedTest):
    def test_first_lots_like_lots(self):
        told = 0
        for lot in LOTS + list(some_lots(12, 60, most=2)):
            try:
                first = first_lot_like(lot)
            except TooMany:
                continue
            told += 1
            self.assertEqual(first.letters, lot.letters)
            self.assertEqual(numerator(first), numerator(lot))
            for degree in range(9):
                products = products_of(lot.letters, degree)
                self.assertEqual(members_of(first, degree), products[:len(products) - count_at(lot, degree)])
            self.assertTrue(all(degree <= met_from(lot) for degree in first.degrees))
            self.assertEqual(met_from(first), met_from(lot))
            self.assertEqual(first_lot_like(first), first)
            self.assertIs(is_first_lot(first), True)
            self.assertIs(is_first_lot(lot), first == lot)
        self.assertGreater(told, 60)

    def test_first_lots_have_the_greatest_tables(self):
        for lot in some_lots(15, 40, most=2, letters=3):
            try:
                first = first_lot_like(lot)
            except TooMany:
                continue
            for prime in (0, 2):
                self.check_above(table_of(first, prime) - table_of(lot, prime))

    def check_above(self, rest):
        """Check that a table is a sum of neighbours: that the sums with signs are at least 0, and end with 0."""
        for degree in {degree for _, degree in rest.entries}:
            total = 0
            for step in range(9):
                total = rest.entries.get((step, degree), 0) - total
                self.assertGreaterEqual(total, 0)
            self.assertEqual(total, 0)

    def test_empty_and_all(self):
        for lot in (EMPTY, ALL, Lot(1, ()), Lot(4, ((0,) * 4,))):
            self.assertEqual(first_lot_like(lot), lot)
            self.assertIs(is_first_lot(lot), True)
        self.assertEqual(first_lot_like(Lot(2, ((0, 1),))), Lot(2, ((1, 0),)))

    def test_long_and_great_members(self):
        great = Lot(2, ((5, 0), (0, 5)))
        self.raises(TooMany(8), first_lot_like, great)
        self.assertIs(is_first_lot(great), False)
        line = Lot(2, ((8, 0),)) * Lot(2, ((1, 0),))
        self.raises(TooMany(8), first_lot_like, line)
        self.assertIs(is_first_lot(line), True)
        eight = Lot(2, ((8, 0),))
        self.assertEqual(first_lot_like(eight), eight)
        limit = Lot(4, ((0, 0, 2, 0), (0, 1, 0, 4), (0, 2, 1, 0), (0, 4, 0, 0), (3, 2, 0, 0)))
        self.assertEqual(len(first_lot_like(limit)), 24)
        both = Lot(3, ((1, 4, 2), (3, 3, 2), (4, 0, 3), (4, 3, 1)))
        self.raises(TooMany(8), first_lot_like, both)
        many = Lot(4, ((0, 0, 2, 0), (2, 0, 1, 0), (2, 3, 0, 1)))
        self.raises(TooMany(24), first_lot_like, many)
        self.assertIs(is_first_lot(many), False)

    def test_wrong_lots(self):
        wide, high = Lot(5, ((1, 1, 0, 0, 0),)), Lot(5, ((8, 0, 0, 0, 0), (0, 8, 0, 0, 0)))
        points = Lot(3, ((8, 0, 0), (0, 8, 0)))
        for call in (first_lot_like, is_first_lot):
            for value in NO_LOTS:
                self.raises(InvalidLot, call, value)
            for lot in (wide, high, Lot(5, ()), Lot(8, ((0,) * 8,))):
                self.raises(InvalidOperation, call, lot)
            self.raises(TooMany(60), call, points)

    def test_none_of_these_is_true(self):
        self.assertNotEqual(growth_bound(5, 2), growth_bound(5, 3))
        stable = Lot(3, ((2, 0, 0), (1, 1, 0), (0, 2, 0)))
        self.assertEqual([is_strongly_stable(stable), is_first_lot(stable)], [True, False])
        first = first_lot(3, (1, 3, 4, 2))
        self.assertNotEqual(members_of(first, 3)[:2], [m for m in first.members if sum(m) == 3])
        self.assertEqual(table_of(first).at(0, 0), Table({(0, 0): 1}).at(0, 0))


if __name__ == "__main__":
    unittest.main()
