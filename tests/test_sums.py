"""[15.1] to [15.7]: sums of chains, and neighbours."""

import itertools
import random
import unittest
from fractions import Fraction

from pureladders.errors import InvalidDegrees, InvalidOperation, InvalidTable, TooMany
from pureladders.lot.lots import Lot
from pureladders.part.parts import table_of
from pureladders.pure import sums
from pureladders.pure.chains import table_of_chain, taking_off
from pureladders.pure.degrees import is_below, pure_degrees, pure_table
from pureladders.pure.sums import (
    are_one_chain, chain_of_sum, is_neighbours, joined_chain, lower_of, neighbours, scaled_chain, taken, upper_of)
from pureladders.pure.tells import table_numerator
from pureladders.row.counts import numerator
from pureladders.row.growth import first_lot_like
from pureladders.table.tables import Table
from tests.chance import some_lots, squarefree_lots
from tests.checked import EDGES, FIELDS, LONG, LONGER, NESTED, SIXTY, SQUARES, CheckedTest, each
from tests.fractions_by_hand import as_table, below, by_place, chain_sum, number, pair, some_chains, some_tables, take_off
from tests.test_chains import LONG_CHAINS, LONG_WAY, NO_CHAINS
from tests.test_degrees import GIVEN, NO_DEGREES
from tests.test_tables import NO_PLACES, NO_TABLES

ONE, OTHER = (((0, 1, 4), (1, 1)),), (((0, 2, 3), (1, 1)),)
PLAIN = table_of(Lot(2, ((0, 2), (2, 0))))
NOTHING = Table({})
# None of these is a fraction above 0 in lowest terms.
NO_FRACTIONS = (
    None, True, 0, 1, LONGER, "", "1/2", (), (1,), (1, 2, 3), [1, 2], (0, 1), (-1, 2), (1, -2), (-1, -2), (2, 4), (1, 0), (0, 0),
    (True, 1), (1, True), (None, 1), (1, "2"), ((1,), 1), {}, {1: 2}, NESTED, EDGES, (EDGES, 1), (LONGER, LONGER))
LONG_FRACTIONS = ((LONG, 1), (1, LONG), (LONGER, LONGER + 1))
NO_NEIGHBOURS = (
    None, True, 0, 1, LONGER, "", (), [], ((0, 0), (1, 1)), [((0, 0), (1, 1))], NESTED, EDGES, NOTHING, {(8, 0): (1, 1)},
    {(0, 0): (1, 1), (8, 480): (1, 1)}) + tuple({place: (1, 1)} for place in NO_PLACES) + tuple(
    {(0, 0): told} for told in NO_FRACTIONS) + tuple({(3, 3): (1, 1), (4, 4): told} for told in NO_FRACTIONS)


def far_chain(many):
    """A chain of so many pairs."""
    return tuple((degrees, pair(Fraction(at % 7 + 1, at % 5 + 1))) for at, degrees in enumerate(LONG_WAY[:many]))


def doubled(told):
    """The table of neighbours, as [15.4] tells it."""
    total = {}
    for step, degree in told:
        for place in ((step, degree), (step + 1, degree)):
            total[place] = total.get(place, 0) + number(told[step, degree])
    return as_table(total)


def some_neighbours(chance, most=7):
    return {(chance.randint(0, most), chance.randint(0, 5)): pair(Fraction(chance.randint(1, 9), chance.randint(1, 9)))
            for _ in range(chance.randint(0, 6))}


def by_sums(greater, lesser):
    """The neighbours by the sums of [15.4]; None if they are none."""
    less = {place: number((greater - lesser).at(*place)) for place in itertools.product(range(9), range(20))}
    told = {(i, j): sum((-1) ** (i - k) * less[k, j] for k in range(i + 1)) for i, j in less}
    if any(value < 0 for value in told.values()) or any(told[8, j] for j in range(20)):
        return None
    return {place: pair(told[place]) for place in told if told[place]}


class DegreesTest(CheckedTest):
    def test_examples(self):
        self.assertEqual(sums.MAX_JOINED, 250)
        self.assertEqual(
            [lower_of((0, 1, 4), (0, 2, 3)), upper_of((0, 1, 4), (0, 2, 3)), lower_of((0, 3), (1, 2, 5)),
             upper_of((0, 3), (1, 2, 5))], [(0, 1, 3), (0, 2, 4), (0, 2, 5), (1, 3)])

    def test_the_greatest_below_both(self):
        degrees = pure_degrees(3, 4)
        for one, other in itertools.product(degrees, repeat=2):
            low, high = lower_of(one, other), upper_of(one, other)
            self.assertIn(low, degrees)
            self.assertIn(high, degrees)
            for chosen in degrees:
                self.assertIs(is_below(chosen, low), is_below(chosen, one) and is_below(chosen, other))
                self.assertIs(is_below(high, chosen), is_below(one, chosen) and is_below(other, chosen))

    def test_greater_degrees(self):
        for one, other in zip(GIVEN, GIVEN[7:] + GIVEN[:7]):
            short, long = sorted((one, other), key=len)
            both = list(zip(short, long))
            self.assertEqual(lower_of(one, other), tuple(map(min, both)) + long[len(short):])
            self.assertEqual(upper_of(one, other), tuple(map(max, both)))
            self.assertEqual([lower_of(one, one), upper_of(one, one)], [one, one])
            self.assertTrue(below(lower_of(one, other), one) and below(other, upper_of(one, other)))

    def test_wrong_degrees(self):
        for call in (lower_of, upper_of):
            self.refuses(call, ((0, 1), (2,)), ((0, each(InvalidDegrees, NO_DEGREES)), (1, each(InvalidDegrees, NO_DEGREES))))


class SumsTest(CheckedTest):
    def test_examples(self):
        self.assertEqual(
            [are_one_chain(ONE, OTHER), joined_chain(ONE, OTHER), chain_of_sum(ONE, OTHER)],
            [False, None, (((0, 1, 3), (2, 3)), ((0, 2, 3), (2, 3)), ((0, 2, 4), (2, 3)))])
        self.assertEqual(
            joined_chain(OTHER, (((0, 2, 3), (1, 2)), ((0, 2), (5, 1)))), (((0, 2, 3), (3, 2)), ((0, 2), (5, 1))))
        self.assertEqual(scaled_chain(OTHER, (2, 3)), (((0, 2, 3), (2, 3)),))

    def check_two(self, one, other):
        """Check what is told of two chains; whether they are one chain."""
        rows = sorted({degrees for degrees, _ in one + other}, key=lambda row: (-len(row), row))
        rising = all(below(low, high) or below(high, low) for low, high in itertools.combinations(rows, 2))
        self.assertIs(are_one_chain(one, other), rising)
        total = {}
        for degrees, told in one + other:
            total[degrees] = total.get(degrees, 0) + number(told)
        joined = joined_chain(one, other)
        if rising:
            self.assertEqual(dict(joined), {degrees: pair(told) for degrees, told in total.items()})
            self.assertTrue(all(low != high and below(low, high) for (low, _), (high, _) in zip(joined, joined[1:])))
            self.assertEqual(chain_of_sum(one, other), joined)
        else:
            self.assertIsNone(joined)
        self.assertEqual(("chain", chain_of_sum(one, other)), take_off(chain_sum(one + other)))
        self.assertEqual(("chain", chain_of_sum(one, other)), taking_off(table_of_chain(one) + table_of_chain(other)))
        return rising

    def test_chains_by_chance(self):
        found = {True: 0, False: 0}
        for one, other in zip(some_chains(170, 150, longest=5), some_chains(171, 150, longest=5)):
            found[self.check_two(one, other)] += 1
        for pairs in some_chains(172, 60):
            for cut in range(len(pairs) + 1):
                self.assertTrue(self.check_two(pairs[:cut], pairs[cut:]))
                self.assertTrue(self.check_two(pairs[cut:], pairs[:cut]))
            self.assertTrue(self.check_two(pairs[::2], pairs[1::2]))
            self.assertTrue(self.check_two(pairs, pairs))
            self.assertEqual([joined_chain(pairs, ()), joined_chain((), pairs)], [pairs, pairs])
        self.assertTrue(min(found.values()) > 10)
        self.assertEqual([are_one_chain((), ()), joined_chain((), ()), chain_of_sum((), ())], [True, (), ()])

    def test_sums_of_two_pure_tables(self):
        """[15.3]."""
        chance = random.Random(173)
        degrees = pure_degrees(3, 5)
        for _ in range(400):
            one, other = chance.choice(degrees), chance.choice(degrees)
            pairs = [((row, pair(Fraction(chance.randint(1, 9), chance.randint(1, 9)))),) for row in (one, other)]
            found = [row for row, _ in chain_of_sum(*pairs)]
            self.assertEqual([found[0], found[-1]], [lower_of(one, other), upper_of(one, other)])
            places = set(enumerate(one)) | set(enumerate(other))
            self.assertTrue(all(set(enumerate(row)) <= places for row in found))
            self.assertIs(set(found) == {one, other}, below(one, other) or below(other, one))

    def test_how_many_pairs(self):
        one = far_chain(250)
        two = tuple((degrees, (1, 1)) for degrees in LONG_WAY[250:500])
        self.assertEqual(joined_chain(one, two), one + two)
        self.assertEqual(chain_of_sum(two, one), one + two)
        self.assertEqual(len(scaled_chain(one, (1, 2))), 250)
        for call in (are_one_chain, joined_chain, chain_of_sum):
            self.raises(InvalidOperation, call, far_chain(251), ())
            self.raises(InvalidOperation, call, (), far_chain(251))
        self.raises(InvalidOperation, scaled_chain, far_chain(251), (1, 1))

    def test_scaled_chains(self):
        chance = random.Random(174)
        for pairs in some_chains(175, 60):
            told = Fraction(chance.randint(1, 20), chance.randint(1, 20))
            found = scaled_chain(pairs, pair(told))
            self.assertEqual(found, tuple((degrees, pair(number(share) * told)) for degrees, share in pairs))
            self.assertEqual(table_of_chain(found), table_of_chain(pairs).times(*pair(told)))
        self.assertEqual(scaled_chain((), (SIXTY, 1)), ())

    def test_long_integers(self):
        big, small = (((0, 1), (SIXTY, 1)),), (((0, 1), (1, SIXTY)),)
        self.assertEqual(scaled_chain(big, (1, SIXTY)), (((0, 1), (1, 1)),))
        self.assertEqual(scaled_chain((((0, 1), (1, 1)),), (SIXTY, SIXTY - 1)), (((0, 1), (SIXTY, SIXTY - 1)),))
        self.raises(TooMany(60), scaled_chain, big, (2, 1))
        self.raises(TooMany(60), scaled_chain, small, (1, 2))
        for call in (joined_chain, chain_of_sum):
            self.raises(TooMany(60), call, big, (((0, 1), (1, 1)),))
            self.raises(TooMany(60), call, big, small)
            self.assertEqual(call((((0, 1), (SIXTY - 1, 1)),), (((0, 1), (1, 1)),)), big)
        self.raises(TooMany(60), chain_of_sum, (((0, 1, 4), (SIXTY, 1)),), (((0, 2, 3), (1, SIXTY - 2)),))
        # Just told whether they are one chain, and what is no chain has no integers.
        self.assertIs(are_one_chain(big, big), True)
        self.assertIsNone(joined_chain((((0, 1, 4), (SIXTY, 1)),), (((0, 2, 3), (SIXTY, 1)),)))

    def test_wrong_chains(self):
        wrong = NO_CHAINS + LONG_CHAINS
        for call in (are_one_chain, joined_chain, chain_of_sum):
            self.refuses(call, (ONE, OTHER), ((0, each(InvalidOperation, wrong)), (1, each(InvalidOperation, wrong))))
        self.refuses(scaled_chain, (ONE, (1, 2)), (
            (0, each(InvalidOperation, wrong)), (1, each(InvalidOperation, NO_FRACTIONS + LONG_FRACTIONS))), (
            (((((0, 1), (SIXTY, 1)),), (2, 1)), TooMany(60)),))


class NeighboursTest(CheckedTest):
    def test_examples(self):
        self.assertEqual(
            [neighbours(table_of(SQUARES), PLAIN), neighbours(PLAIN, table_of(SQUARES)), neighbours(PLAIN, PLAIN),
             taken(table_of(SQUARES), {(1, 3): (1, 1)}) == PLAIN], [{(1, 3): (1, 1)}, None, {}, True])
        self.assertEqual(
            [is_neighbours(table_of(SQUARES), PLAIN, {(1, 3): (1, 1)}), is_neighbours(table_of(SQUARES), PLAIN, {(1, 3): (2, 2)})],
            [True, False])

    def test_neighbours_by_chance(self):
        chance = random.Random(176)
        for table in some_tables(177, 150, last=8, most=5, least=-3):
            told = some_neighbours(chance)
            greater = table + doubled(told)
            found = neighbours(greater, table)
            self.assertEqual(found, told)
            self.assertEqual(list(found), sorted(found))
            self.assertIs(is_neighbours(greater, table, told), True)
            self.assertEqual(taken(greater, told), table)
            self.assertEqual(taken(table, told), table - doubled(told))
            for place in told:
                other = {key: told[key] for key in told if key != place}
                self.assertIs(is_neighbours(greater, table, other), False)
                self.assertIs(is_neighbours(greater, table, {**other, place: pair(number(told[place]) + 1)}), False)
            self.assertIs(is_neighbours(greater, table, {**told, (7, 19): (1, 1)}), False)
            if told:
                self.assertIsNone(neighbours(table, greater))
                self.assertIs(is_neighbours(table, greater, {place: pair(-number(told[place])) for place in told}), False)

    def test_which_tables_are_above(self):
        found = {True: 0, False: 0}
        given = list(some_tables(178, 150, last=8, most=4, many=3)) + list(some_tables(179, 300, last=2, most=3, many=3))
        for one, other in zip(given, given[1:]):
            expected = by_sums(one, other)
            self.assertEqual(neighbours(one, other), expected)
            self.assertIs(is_neighbours(one, other, expected), expected is not None)
            self.assertIs(is_neighbours(one, other, {}), one == other)
            found[expected is None] += 1
        self.assertTrue(min(found.values()) > 5)

    def test_the_last_steps(self):
        last = Table({(7, 3): 2, (8, 3): 2}, 5)
        self.assertEqual([neighbours(last, NOTHING), neighbours(NOTHING, last)], [{(7, 3): (2, 5)}, None])
        for table in (Table({(8, 3): 1}), Table({(7, 3): 1}), Table({(7, 3): 1, (8, 3): 2}), Table({(7, 3): 2, (8, 3): 1})):
            self.assertIsNone(neighbours(table, NOTHING))
            self.assertIs(is_neighbours(table, NOTHING, {(7, 3): (1, 1)}), False)
            self.assertIs(is_neighbours(table, NOTHING, {(8, 3): (1, 1)}), False)
        every = Table({(step, 480): 1 if step in (0, 8) else 2 for step in range(9)})
        self.assertEqual(neighbours(every, NOTHING), {(step, 480): (1, 1) for step in range(8)})
        self.assertEqual(taken(NOTHING, {(7, 480): (1, 3)}), Table({(7, 480): -1, (8, 480): -1}, 3))

    def test_an_order(self):
        """[15.5]."""
        chance = random.Random(180)
        for table in some_tables(181, 60, last=6, least=-3):
            self.assertEqual(neighbours(table, table), {})
            one = table + doubled(some_neighbours(chance))
            two = one + doubled(some_neighbours(chance))
            self.assertIsNotNone(neighbours(two, table))
            self.assertEqual(table_numerator(two), table_numerator(table))
            self.assertIs(neighbours(table, one) is not None, one == table)

    def test_long_neighbours(self):
        double = Table({(0, 0): SIXTY, (1, 0): SIXTY})
        self.assertEqual(neighbours(double, NOTHING), {(0, 0): (SIXTY, 1)})
        great = double + Table({(0, 0): 1, (1, 0): 1})
        self.raises(TooMany(60), neighbours, great, NOTHING)
        self.raises(TooMany(60), neighbours, great.times(1, LONG - 1).times(1, 7), NOTHING)
        self.assertIs(is_neighbours(great, NOTHING, {(0, 0): (LONG, 1)}), True)
        self.assertIs(is_neighbours(great, NOTHING, {(0, 0): (SIXTY, 1)}), False)
        # Where there are none, no integer is too long.
        self.assertIsNone(neighbours(NOTHING, great))
        for told in LONG_FRACTIONS:
            self.raises(InvalidOperation, taken, NOTHING, {(0, 0): told})
        self.assertEqual(taken(great, {(0, 0): (SIXTY, 1)}), Table({(0, 0): 1, (1, 0): 1}))
        self.assertEqual(taken(NOTHING, {(0, 0): (1, SIXTY), (2, 5): (SIXTY, SIXTY - 1)}),
                         -doubled({(0, 0): (1, SIXTY), (2, 5): (SIXTY, SIXTY - 1)}))

    def test_which_values_are_neighbours(self):
        greater = Table({(1, 3): 1, (2, 3): 1})
        for value in NO_NEIGHBOURS:
            self.assertIs(is_neighbours(greater, NOTHING, value), False)
            self.assertIs(is_neighbours(NOTHING, NOTHING, value), False)
            self.raises(InvalidOperation, taken, NOTHING, value)
        self.assertIs(is_neighbours(greater, NOTHING, {(1, 3): (1, 1)}), True)
        self.assertIs(is_neighbours(greater, NOTHING, {(True, 3): (1, 1)}), False)
        self.assertIs(is_neighbours(greater, NOTHING, {(1, 3): (True, 1)}), False)
        self.assertIs(is_neighbours(greater, NOTHING, {(1, 3): (1, True)}), False)
        self.assertIs(is_neighbours(NOTHING, NOTHING, {}), True)
        self.assertEqual(taken(greater, {}), greater)

    def test_wrong_tables(self):
        wrong = ((0, each(InvalidTable, NO_TABLES)), (1, each(InvalidTable, NO_TABLES)))
        great = Table({(0, 0): SIXTY, (1, 0): SIXTY}) + Table({(0, 0): 1, (1, 0): 1})
        self.refuses(neighbours, (NOTHING, NOTHING), wrong, (((great, NOTHING), TooMany(60)),))
        self.refuses(lambda one, other: is_neighbours(one, other, None), (NOTHING, NOTHING), wrong)
        self.refuses(taken, (NOTHING, {}), (
            (0, each(InvalidTable, NO_TABLES)), (1, each(InvalidOperation, NO_NEIGHBOURS))))

    def test_tables_over_primes(self):
        """[15.6]: over a prime the table is above that over the fractions."""
        for lot in squarefree_lots(182, 40):
            for prime in FIELDS:
                self.assertIsNotNone(neighbours(table_of(lot, prime), table_of(lot)))

    def test_first_lots(self):
        """[15.6], [4.6]: the first lot with the numerator of a lot has the greatest table."""
        above = 0
        for lot in some_lots(183, 80, letters=3, many=4, most=3):
            try:
                first = first_lot_like(lot)
            except TooMany:
                continue
            self.assertEqual(numerator(first), numerator(lot))
            for prime in (0, 2, 3):
                told = neighbours(table_of(first, prime), table_of(lot, prime))
                self.assertIsNotNone(told)
                above += bool(told)
        self.assertGreater(above, 3)

    def test_quotients(self):
        """[15.6]: the table of a lot, and that of its quotient a step later, are above that of the lot with a product."""
        chance = random.Random(184)
        for lot in some_lots(185, 60, most=3):
            product = tuple(chance.randint(0, 2) for _ in range(lot.letters))
            for prime in (0, 2):
                moved = Table({(step + 1, degree + sum(product)): entry for (step, degree), entry in table_of(
                    lot.quotient(product), prime).entries.items()})
                both = table_of(lot + Lot(lot.letters, (product,)), prime)
                self.assertIsNotNone(neighbours(table_of(lot, prime) + moved, both))

    def test_what_is_not_true(self):
        """[15.7]."""
        chain = table_of_chain((((0, 2), (1, 1)),))
        above = chain + Table({(3, 9): 1, (4, 9): 1})
        self.assertIsNotNone(neighbours(above, chain))
        self.assertEqual(taking_off(above)[0], "stuck")
        self.assertGreater(len(chain_of_sum((((0, 1, 4, 5), (1, 1)),), (((0, 2, 3, 6), (1, 1)),))), 3)
        shared = (((0, 1, 3), (1, 1)),)
        self.assertFalse(are_one_chain(shared + (((0, 1, 4), (1, 1)),), shared + (((0, 2, 3), (1, 1)),)))
        self.assertEqual(taking_off(pure_table((0, 1)))[0], "chain")


if __name__ == "__main__":
    unittest.main()
