"""[14.1] to [14.7]: what tables tell."""

import math
import random
import unittest
from fractions import Fraction

from pureladders.errors import InvalidLot, InvalidOperation, InvalidTable, Refused, TooMany
from pureladders.family.links import dual_lot
from pureladders.lot.lots import Lot
from pureladders.part.parts import table_of
from pureladders.pure.chains import table_of_chain, taking_off
from pureladders.pure.degrees import pure_table
from pureladders.pure.tells import (
    codimension, depth_of, ends, regularity, table_numerator, weight_bounds, weight_of)
from pureladders.row.counts import dimension, numerator, weight
from pureladders.straight.orders import is_straight
from pureladders.table.tables import Table
from tests.chance import some_lots, squarefree_lots
from tests.checked import EDGES, FIELDS, NO_FIELDS, NO_LOTS, RING, SIXTY, SQUARES, CheckedTest, each, each_number
from tests.fractions_by_hand import by_place, number, pair, some_chains, some_tables
from tests.test_parts import ABOVE
from tests.test_straight import one_degree_lots
from tests.test_tables import NO_TABLES

LOW = Lot(2, ((2, 0), (1, 1)))
NOTHING = Table({})
ALL = Lot(3, ((0, 0, 0),))
LOTS = list(some_lots(160, 60)) + [EDGES, SQUARES, RING, LOW, Lot(3, ()), Lot(8, (tuple(range(1, 9)),))]
NUMERATOR = Refused(("numerator",))


def polynomial(table):
    """The dict of the coefficients of the numerator that are not 0."""
    found = {}
    for (step, degree), told in by_place(table).items():
        found[degree] = found.get(degree, 0) + (-1) ** step * told
    return {degree: found[degree] for degree in sorted(found) if found[degree]}


def order_at_one(table):
    """The least number of derivatives with a value at 1 other than 0, and this value by the factorial, with its sign."""
    told = polynomial(table)
    for count in range(max(told) + 1):
        value = sum(number * math.comb(degree, count) for degree, number in told.items())
        if value:
            return count, (-1) ** count * value
    raise AssertionError("a polynomial other than 0")


class TellsTest(CheckedTest):
    def test_examples(self):
        self.assertEqual(
            ([table_numerator(table_of(lot)) for lot in (EDGES, SQUARES)],
             [codimension(table_of(lot)) for lot in (EDGES, SQUARES, RING)]),
            ([{0: (1, 1), 2: (-3, 1), 3: (2, 1)}, {0: (1, 1), 2: (-2, 1), 4: (1, 1)}], [2, 2, 2]))
        self.assertEqual(
            ([weight_of(table_of(lot)) for lot in (EDGES, SQUARES, RING)],
             [regularity(table_of(lot)) for lot in (EDGES, SQUARES, RING)], [depth_of(lot) for lot in (EDGES, SQUARES, RING)]),
            ([(3, 1), (4, 1), (4, 1)], [1, 2, 2], [2, 0, 2]))
        self.assertEqual(
            [ends(table_of(SQUARES)), weight_bounds(table_of(SQUARES)), weight_bounds(table_of(RING)),
             weight_of(pure_table((1, 2, 4, 7)))],
            [((0, 2, 3), (0, 3, 4)), ((3, 1), (6, 1)), ((4, 1), (4, 1)), (1, 6)])
        self.assertEqual(
            [codimension(table_of(LOW)), weight_of(table_of(LOW)), depth_of(LOW), weight_bounds(table_of(LOW)),
             ends(Table({(1, 2): 1}))], [1, (1, 1), 0, (None, (2, 1)), ((None, 2), (None, 2))])
        self.raises(NUMERATOR, codimension, Table({(0, 0): 1, (1, 0): 1}))

    def test_tables_by_chance(self):
        seen = set()
        for table in list(some_tables(161, 200, last=8, most=14, least=-4)) + list(some_tables(162, 100, last=1, most=1, least=-2)):
            told = polynomial(table)
            self.assertEqual(table_numerator(table), {degree: pair(value) for degree, value in told.items()})
            self.assertEqual(list(table_numerator(table)), sorted(told))
            if told:
                order, value = order_at_one(table)
                self.assertEqual([codimension(table), weight_of(table)], [order, pair(value)])
                seen.add(order)
            else:
                self.raises(NUMERATOR, codimension, table)
                self.raises(NUMERATOR, weight_of, table)
                seen.add(bool(table))
        self.assertTrue(seen >= {0, 1, True, False})

    def test_many_factors(self):
        for count in range(9):
            table = Table({(step % 2 + 2 * (step % 3), step + 7): math.comb(count, step) for step in range(count + 1)}, 9)
            self.assertEqual([codimension(table), weight_of(table)], [count, (1, 9)])
        # Steps of one parity: so places of one degree can stand for coefficients of both signs.
        entries = {(0 if degree % 2 == 0 else 1, degree): math.comb(200, degree) for degree in range(201)}
        self.assertEqual([codimension(Table(entries)), weight_of(Table(entries))], [200, (1, 1)])
        far = Table({(0, 0): 1, (1, 480): 1})
        self.assertEqual([codimension(far), weight_of(far)], [1, (480, 1)])
        self.assertEqual([codimension(Table({(3, 480): 2}, 3)), weight_of(Table({(3, 480): 2}, 3))], [0, (-2, 3)])

    def test_tables_of_lots(self):
        """[14.1], [14.2] against stage 3, over each field."""
        for lot in LOTS:
            for prime in FIELDS:
                table = table_of(lot, prime)
                self.assertEqual(table_numerator(table), {degree: (told, 1) for degree, told in numerator(lot).items()})
                if not lot.is_all:
                    self.assertEqual(codimension(table), lot.letters - dimension(lot))
                    self.assertEqual(weight_of(table), (weight(lot), 1))
        self.assertEqual(table_numerator(table_of(ALL)), {})
        self.raises(NUMERATOR, codimension, table_of(ALL))

    def test_pure_tables(self):
        chance = random.Random(163)
        for many in range(1, 10):
            for _ in range(12):
                degrees = tuple(sorted(chance.sample(range(chance.choice((9, 30, 481))), many)))
                table = pure_table(degrees)
                self.assertEqual([codimension(table), weight_of(table)], [many - 1, (1, math.factorial(many - 1))])
                self.assertEqual(ends(table), (degrees, degrees))
                self.assertEqual(regularity(table), degrees[-1] - many + 1)

    def test_chains(self):
        """[14.3]: codimensions and weights of sums along a chain."""
        for pairs in some_chains(164, 120):
            if pairs:
                table = table_of_chain(pairs)
                least = min(len(degrees) - 1 for degrees, _ in pairs)
                total = sum(number(told) for degrees, told in pairs if len(degrees) - 1 == least)
                self.assertEqual([codimension(table), weight_of(table)], [least, pair(total / math.factorial(least))])

    def test_depths(self):
        """[14.4]."""
        for lot in LOTS:
            for prime in FIELDS:
                if lot.is_all:
                    self.raises(InvalidOperation, depth_of, lot, prime)
                else:
                    depth = depth_of(lot, prime)
                    self.assertEqual(depth, lot.letters - table_of(lot, prime).end)
                    self.assertTrue(0 <= depth <= dimension(lot))
                    self.assertGreaterEqual(table_of(lot, prime).end, codimension(table_of(lot, prime)))
        self.assertEqual([depth_of(Lot(3, ())), depth_of(Lot(8, ())), depth_of(Lot(1, ((5,),)))], [3, 8, 0])

    def test_depths_over_fields(self):
        half = Lot(6, tuple(tuple(int(at in chosen) for at in range(6)) for chosen in (
            (0, 1, 3), (0, 1, 4), (0, 2, 4), (0, 2, 5), (0, 3, 5), (1, 2, 3), (1, 2, 5), (1, 4, 5), (2, 3, 4), (3, 4, 5))))
        self.assertEqual([depth_of(half), depth_of(half, 0), depth_of(half, 2), depth_of(half, 3)], [3, 3, 2, 3])

    def test_wrong_depths(self):
        self.refuses(depth_of, (EDGES, 97), (
            (0, each(InvalidLot, NO_LOTS)), (1, each_number(NO_FIELDS))), (
            ((ALL, 2), InvalidOperation), ((Lot(8, ABOVE[32]), 0), TooMany(8000))))

    def test_regularities(self):
        """[14.5]: of lots of one degree, and of lots without squares and their duals."""
        straight = set()
        for lot in one_degree_lots(165, 60):
            if not lot.is_all:
                for prime in (0, 2):
                    told = regularity(table_of(lot, prime))
                    self.assertGreaterEqual(told, lot.degrees[0] - 1)
                    self.assertIs(told == lot.degrees[0] - 1, is_straight(lot, prime))
                    straight.add(is_straight(lot, prime))
        self.assertEqual(straight, {True, False})
        for lot in squarefree_lots(166, 60):
            if lot and not lot.is_all:
                for prime in (0, 2):
                    self.assertEqual(regularity(table_of(lot, prime)) + 1, table_of(dual_lot(lot), prime).end)
        self.assertEqual([regularity(NOTHING), regularity(table_of(ALL)), regularity(table_of(Lot(2, ())))], [None, None, 0])
        self.assertEqual([regularity(Table({(8, 0): -1})), regularity(Table({(0, 480): 1, (8, 480): 1}))], [-8, 480])

    def test_ends(self):
        for table in some_tables(167, 200, last=8, most=14, least=-3):
            places = table.entries
            steps = [[degree for at, degree in places if at == step] for step in range(table.end + 1)]
            self.assertEqual(ends(table), (tuple(min(step, default=None) for step in steps),
                                           tuple(max(step, default=None) for step in steps)))
        self.assertEqual([ends(NOTHING), ends(Table({(0, 480): 1}))], [((), ()), ((480,), (480,))])

    def test_bounds(self):
        """[14.6]: of tables of lots and of chains."""
        met = set()
        tables = [table_of(lot, prime) for lot in LOTS if not lot.is_all for prime in (0, 2)]
        for pairs in some_chains(168, 400, last=3):
            pairs = tuple(((0,) + tuple(degree + 1 for degree in degrees), told) for degrees, told in pairs)
            tables += [table_of_chain(pairs)] if pairs else []
        for table in tables:
            low, high = ends(table)
            count = codimension(table)
            start = number(table.at(0, 0)) / math.factorial(count)
            upper = start * math.prod(high[1:count + 1])
            lower = start * math.prod(low[1:count + 1]) if count == table.end else None
            self.assertEqual(weight_bounds(table), (None if lower is None else pair(lower), pair(upper)))
            told = number(weight_of(table))
            self.assertLessEqual(told, upper)
            if lower is not None:
                self.assertLessEqual(lower, told)
                self.assertEqual([told == lower, told == upper], [low == high, low == high])
                met.add(low == high)
        self.assertEqual(met, {True, False})
        self.assertEqual(weight_bounds(Table({(0, 0): 5}, 3)), ((5, 3), (5, 3)))

    def test_what_has_no_bounds(self):
        for table in (NOTHING, Table({(0, 0): -1}), Table({(0, 1): 1}), Table({(0, 0): 1, (0, 1): 1}), Table({(1, 0): 1}),
                      Table({(0, 0): 1, (0, 480): -1}), table_of(ALL), Table({(0, 0): -1, (1, 1): -1})):
            self.raises(InvalidOperation, weight_bounds, table)
        for table in (Table({(0, 0): 1, (2, 3): 1}), Table({(0, 0): 1, (1, 0): 1}), Table({(0, 0): 1, (1, 1): 2}),
                      Table({(0, 0): 1, (1, 2): -1})):
            self.raises(Refused(("stuck",)), weight_bounds, table)
        # Taking off returns no fraction of more than sixty digits; bounds have integers of any length.
        great = table_of(SQUARES).times(SIXTY).times(SIXTY)
        self.raises(TooMany(60), taking_off, great)
        self.assertEqual(weight_bounds(great), ((3 * SIXTY ** 2, 1), (6 * SIXTY ** 2, 1)))
        self.assertEqual([weight_of(great), table_numerator(great)[2]], [(4 * SIXTY ** 2, 1), (-2 * SIXTY ** 2, 1)])

    def test_wrong_tables(self):
        for value in NO_TABLES:
            for call in (table_numerator, codimension, weight_of, regularity, ends, weight_bounds):
                self.raises(InvalidTable, call, value)

    def test_what_is_not_true(self):
        """[14.7]."""
        one, other = Table({(0, 0): 1, (1, 2): 1, (2, 2): 1}), Table({(0, 0): 1})
        self.assertTrue(table_numerator(one) == table_numerator(other) and one != other)
        self.assertNotEqual(depth_of(LOW), dimension(LOW))
        self.assertLess(number(weight_of(table_of(LOW))), Fraction(2))
        self.assertEqual(ends(table_of(LOW))[0][1], 2)
        self.assertEqual(table_numerator(Table({(0, 0): 1, (1, 0): 1})), {})
        self.assertEqual([regularity(table_of(RING)), RING.degrees[-1] - 1], [2, 1])


if __name__ == "__main__":
    unittest.main()
