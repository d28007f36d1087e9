"""[5.2] to [5.5], and [6.1] to [6.5]: parts of lots, sets of members, and the tables that they tell."""

import itertools
import math
import random
import unittest

from pureladders.base.sparse import ranks_along, sparse_row
from pureladders.base.ranks import rank_of
from pureladders.errors import InvalidLot, InvalidNumber, InvalidProduct, TooMany
from pureladders.lot.lots import Lot, multiples
from pureladders.part import members, parts
from pureladders.part.members import is_scarf, members_holes, members_part, scarf, table_by_members
from pureladders.part.parts import fine_table, part, part_holes, table_of
from pureladders.row.counts import numerator
from pureladders.table.tables import Table
from tests.chance import some_lots
from tests.checked import (
    EDGES, FIELDS, NO_FIELDS, NO_LOTS, NO_PRODUCTS, RING, SQUARES, CheckedTest, each, each_number)
from tests.holes import holes_by_ranks

THREE = Lot(3, ((1, 1, 0), (1, 0, 1), (0, 1, 1)))
EMPTY, ALL = Lot(3, ()), Lot(3, ((0, 0, 0),))
# The least members of the lot of the half sphere: ten products of three of six letters.
HALF = ((0, 1, 2), (0, 2, 3), (0, 3, 4), (0, 4, 5), (0, 1, 5), (1, 2, 4), (2, 3, 5), (1, 3, 4), (2, 4, 5), (1, 3, 5))
SPHERE = Lot(6, tuple(
    tuple(1 if letter in chosen else 0 for letter in range(6))
    for chosen in itertools.combinations(range(6), 3) if chosen not in HALF))


# Least members of lots by the number of their multiples: times 2 for each letter it is at most 8000, or above it.
AT_MOST = {
    125: ((0, 0, 0, 1, 0, 2), (0, 0, 1, 2, 1, 0), (0, 1, 0, 0, 2, 0), (1, 0, 2, 0, 1, 0), (1, 1, 1, 0, 0, 1),
          (1, 2, 1, 0, 0, 0), (2, 0, 1, 1, 0, 0), (2, 0, 2, 0, 0, 0)),
    62: ((0, 0, 0, 0, 0, 2, 0), (0, 0, 0, 1, 2, 1, 0), (0, 0, 0, 2, 2, 0, 2), (0, 0, 1, 2, 0, 1, 2),
         (0, 1, 0, 2, 1, 1, 2), (0, 1, 1, 0, 1, 0, 0), (0, 1, 1, 1, 0, 0, 2), (1, 0, 0, 1, 0, 1, 0)),
    31: ((0, 2, 1, 1, 2, 1, 2, 0), (0, 2, 2, 0, 1, 0, 2, 0), (1, 0, 0, 0, 1, 0, 1, 0), (1, 0, 1, 0, 2, 1, 0, 2),
         (2, 0, 2, 2, 2, 0, 0, 0), (2, 1, 2, 1, 0, 0, 0, 2)),
}
ABOVE = {
    126: ((0, 0, 1, 0, 2, 2), (0, 0, 2, 0, 2, 0), (0, 1, 0, 2, 1, 2), (0, 2, 0, 0, 2, 2), (0, 2, 1, 0, 0, 0),
          (1, 0, 0, 1, 2, 1), (1, 1, 1, 0, 0, 1), (1, 1, 1, 2, 0, 0), (1, 1, 2, 0, 0, 0), (2, 0, 0, 1, 1, 1),
          (2, 1, 0, 1, 0, 0)),
    63: ((0, 2, 1, 0, 1, 0, 1), (0, 2, 2, 2, 0, 2, 2), (1, 0, 0, 0, 2, 0, 0), (1, 0, 1, 2, 1, 0, 2),
         (1, 1, 0, 1, 0, 2, 0), (1, 1, 1, 0, 1, 0, 0), (2, 0, 0, 1, 1, 0, 0), (2, 2, 2, 0, 0, 0, 2)),
    32: ((0, 0, 0, 0, 0, 0, 2, 2), (0, 1, 0, 0, 1, 2, 0, 0), (0, 2, 0, 0, 1, 0, 0, 0), (1, 0, 0, 2, 1, 1, 1, 0),
         (2, 1, 0, 1, 0, 0, 2, 0)),
}


LOTS = list(some_lots(5, 60, least=2)) + [EMPTY, ALL, EDGES, SQUARES, RING, THREE, Lot(1, ((8,),)), Lot(1, ()), Lot(1, ((0,),))]


def all_sets(many):
    return [chosen for size in range(many + 1) for chosen in itertools.combinations(range(many), size)]


def box(lot, more=1):
    """All products with exponents to one more than those of least members."""
    tops = [max([m[at] for m in lot.members], default=0) + more for at in range(lot.letters)]
    return itertools.product(*[range(top + 1) for top in tops])


def part_by_sets(lot, product):
    """The part by a look at all sets of letters."""
    found = []
    for chosen in all_sets(lot.letters):
        rest = tuple(exponent - (at in chosen) for at, exponent in enumerate(product))
        if min(rest) >= 0 and any(all(a <= b for a, b in zip(m, rest)) for m in lot.members):
            found.append(chosen)
    return sorted(found)


def multiple(lot, chosen):
    """The common multiple of the members of these indices."""
    return tuple(max([lot.members[k][at] for k in chosen], default=0) for at in range(lot.letters))


def members_by_sets(lot, product):
    """The members' part by a look at all sets of indices."""
    dividing = [k for k, m in enumerate(lot.members) if all(a <= b for a, b in zip(m, product))]
    if not dividing:
        return []
    return sorted(
        chosen for size in range(len(dividing) + 1) for chosen in itertools.combinations(dividing, size)
        if multiple(lot, chosen) != product)


class PartsTest(CheckedTest):
    def test_constants(self):
        self.assertEqual((parts.MAX_WORK, members.MAX_MEMBERS), (8000, 8))

    def test_examples(self):
        self.assertEqual(
            [str(table_of(lot)) for lot in (EDGES, SQUARES, RING)],
            ['0: 1 at 0; 1: 3 at 2; 2: 2 at 3', '0: 1 at 0; 1: 2 at 2, 1 at 3; 2: 1 at 3, 1 at 4',
             '0: 1 at 0; 1: 2 at 2; 2: 1 at 4'])
        self.assertEqual(fine_table(SQUARES, 0), {
            (0, (0, 0)): 1, (1, (0, 3)): 1, (1, (1, 1)): 1, (1, (2, 0)): 1, (2, (1, 3)): 1, (2, (2, 1)): 1})
        self.assertEqual(
            [part(SQUARES, (2, 1)), part_holes(SQUARES, (2, 1), 0), part(EDGES, (1, 1, 1, 1)),
             part_holes(EDGES, (1, 1, 1, 1), 2), part(EDGES, (1, 0, 0, 1))],
            [((), (0,), (1,)), (0, 1), ((), (0,), (0, 1), (0, 3), (1,), (2,), (2, 3), (3,)), (0, 0, 0), ()])
        self.assertEqual([str(table_of(Lot(2, ((0, 0),)))), str(table_of(Lot(2, ())))], ['0', '0: 1 at 0'])

    def test_parts_by_all_sets_of_letters(self):
        for lot in LOTS:
            for product in box(lot):
                expected = part_by_sets(lot, product)
                self.assertEqual(part(lot, product), tuple(expected))
                self.assertEqual(bool(expected), product in lot)
                for prime in (0, 2):
                    self.assertEqual(part_holes(lot, product, prime), holes_by_ranks(expected, prime))
            for member in lot.members:
                self.assertEqual([part(lot, member), part_holes(lot, member, 3)], [((),), (1,)])

    def test_parts_far_out(self):
        self.assertEqual(part(EMPTY, (60, 60, 60)), ())
        self.assertEqual(part_holes(EMPTY, (60, 60, 60), 97), ())
        self.assertEqual(part(ALL, (60, 0, 1)), ((), (0,), (0, 2), (2,)))
        self.assertEqual([part(ALL, (0, 0, 0)), part_holes(ALL, (0, 0, 0), 0)], [((),), (1,)])
        eight = Lot(8, tuple(tuple(int(at == k) for at in range(8)) for k in range(8)))
        self.assertEqual(len(part(eight, (1,) * 8)), 255)
        self.assertEqual(part_holes(eight, (1,) * 8, 0), (0,) * 7 + (1,))
        self.assertEqual(part_holes(eight, (2,) * 8, 2), (0,) * 9)

    def test_fine_tables_by_all_products(self):
        for lot in LOTS:
            for prime in FIELDS:
                expected = {} if lot.is_all else {(0, (0,) * lot.letters): 1}
                for product in box(lot):
                    if lot.is_all:
                        break
                    for at, number in enumerate(holes_by_ranks(part_by_sets(lot, product), prime)):
                        if number:
                            expected[at + 1, product] = number
                            self.assertIn(product, multiples(lot))
                            self.assertLessEqual(at + 1, lot.letters)
                found = fine_table(lot, prime)
                self.assertEqual(found, expected)
                self.assertEqual(list(found), sorted(found))
                self.check_sums(lot, found, table_of(lot, prime))

    def check_sums(self, lot, fine, table):
        self.assertIs(type(table), Table)
        sums = {}
        for (step, product), number in fine.items():
            self.assertIs(type(number), int)
            sums[step, sum(product)] = sums.get((step, sum(product)), 0) + number
        self.assertEqual([table.entries, table.bottom], [sums, 1])
        signed = {}
        for (step, degree), number in sums.items():
            signed[degree] = signed.get(degree, 0) + (-1) ** step * number
        self.assertEqual({degree: number for degree, number in signed.items() if number}, numerator(lot))

    def test_sums_with_signs_at_each_product(self):
        for lot in LOTS:
            if lot.is_all:
                continue
            signed = {}
            for chosen in all_sets(len(lot)):
                product = multiple(lot, chosen)
                signed[product] = signed.get(product, 0) + (-1) ** len(chosen)
            for prime in (0, 2):
                fine = fine_table(lot, prime)
                for product in multiples(lot):
                    total = sum((-1) ** step * fine.get((step, product), 0) for step in range(9))
                    self.assertEqual(total, signed[product])

    def test_renamed_letters(self):
        chance = random.Random(8)
        for lot in LOTS:
            names = chance.sample(range(lot.letters), lot.letters)
            other = Lot(lot.letters, tuple(tuple(m[at] for at in names) for m in lot.members))
            self.assertEqual(table_of(other), table_of(lot))
            fine = {(step, tuple(m[at] for at in names)): number for (step, m), number in fine_table(lot, 2).items()}
            self.assertEqual(fine_table(other, 2), fine)

    def test_fields(self):
        self.assertEqual(len(SPHERE), 10)
        tables = {prime: table_of(SPHERE, prime) for prime in FIELDS}
        self.assertEqual(str(tables[2] - tables[0]), '3: 1 at 6; 4: 1 at 6')
        self.assertEqual([tables[3] == tables[0], tables[97] == tables[0]], [True, True])
        self.assertEqual(table_of(SPHERE), tables[0])
        self.assertEqual(part_holes(SPHERE, (1,) * 6, 2)[2:], (1, 1))
        self.assertEqual(sum(part_holes(SPHERE, (1,) * 6, 3)), 0)

    def test_empty_and_all(self):
        self.assertEqual([fine_table(ALL, 0), fine_table(EMPTY, 2)], [{}, {(0, (0, 0, 0)): 1}])
        self.assertEqual(fine_table(Lot(8, ((0,) * 8,)), 0), {})

    def test_great_exponents(self):
        high = Lot(2, ((8, 0), (1, 1), (0, 7))).power(4)
        self.assertEqual(table_of(high).at(1, 32), (1, 1))
        self.assertEqual(sum(high.degrees), sum(table_of(high).at(1, j)[0] * j for j in range(481)))
        wide = Lot.read("(x8^60, x1^60 x2^60 x3^60 x4^60 x5^60 x6^60 x7^60)", 8)
        self.assertEqual(str(table_of(wide)), '0: 1 at 0; 1: 1 at 60, 1 at 420; 2: 1 at 480')

    def test_work_at_8000_and_above_it(self):
        for many, members in AT_MOST.items():
            lot = Lot(len(members[0]), members)
            self.assertEqual(len(multiples_of(lot)), many)
            self.assertTrue(7900 < many * 2 ** lot.letters <= 8000)
            self.assertEqual(table_of(lot).at(1, lot.degrees[0]), (lot.degrees.count(lot.degrees[0]), 1))
            self.assertTrue(fine_table(lot, 2))
        for many, members in ABOVE.items():
            lot = Lot(len(members[0]), members)
            self.assertEqual(len(multiples_of(lot)), many)
            self.assertTrue(8000 < many * 2 ** lot.letters <= 8192)
            for prime in (0, 2):
                self.raises(TooMany(8000), fine_table, lot, prime)
                self.raises(TooMany(8000), table_of, lot, prime)
            self.raises(TooMany(8000), table_of, lot)

    def test_work_of_great_lots(self):
        rows = [tuple(int(at in chosen) for at in range(8)) for chosen in itertools.combinations(range(8), 2)]
        self.raises(TooMany(8000), table_of, Lot(8, tuple(rows[:24])))

    def test_results_are_not_shared(self):
        fine_table(EDGES, 0)[0, (0, 0, 0, 0)] = 7
        self.assertEqual(fine_table(EDGES, 0)[0, (0, 0, 0, 0)], 1)

    def test_wrong_arguments(self):
        lots, primes = (0, each(InvalidLot, NO_LOTS)), each_number(NO_FIELDS)
        products = (1, each(InvalidProduct, NO_PRODUCTS + ((1, 1), (1, 1, 1), (1,) * 5)))
        self.refuses(part, (EDGES, (1, 1, 1, 1)), [lots, products])
        self.refuses(part_holes, (EDGES, (1, 1, 1, 1), 0), [lots, products, (2, primes)])
        great = Lot(8, ABOVE[32])
        self.refuses(fine_table, (EDGES, 0), [lots, (1, primes)], [((great, 0), TooMany(8000))])
        self.refuses(table_of, (EDGES, 0), [lots, (1, primes)], [((great, 0), TooMany(8000))])
        for call in (fine_table, table_of):
            for prime in (2, 89, 97):
                call(EDGES, prime)

    def test_none_of_these_is_true(self):
        self.assertEqual(fine_table(THREE, 0)[2, (1, 1, 1)], 2)
        one, other = Lot(2, ((2, 0), (1, 1))), Lot(2, ((2, 0), (1, 1), (0, 2)))
        self.assertEqual([table_of(one).at(2, 3), table_of(other).at(2, 3)], [(1, 1), (2, 1)])
        self.assertGreater(table_of(EDGES).at(1, 2), table_of(EDGES + Lot(4, ((0, 1, 0, 0),))).at(1, 2))


def multiples_of(lot):
    """The multiples without a bound of their number."""
    found = {(0,) * lot.letters}
    for member in lot.members:
        found |= {tuple(map(max, one, member)) for one in found}
    return found


class MembersTest(CheckedTest):
    def test_examples(self):
        self.assertEqual(
            [members_part(SQUARES, (2, 1)), members_holes(SQUARES, (2, 1)), members_holes(SQUARES, (2, 3)),
             members_part(SQUARES, (1, 0)), members_holes(SQUARES, (0, 3))],
            [((), (1,), (2,)), (0, 1), (0, 0, 0), (), (1,)])
        self.assertEqual(scarf(SQUARES), {
            (): (0, 0), (0,): (0, 3), (0, 1): (1, 3), (1,): (1, 1), (1, 2): (2, 1), (2,): (2, 0)})
        self.assertEqual(
            [is_scarf(EDGES), is_scarf(SQUARES), is_scarf(RING), is_scarf(THREE), members_holes(THREE, (1, 1, 1))],
            [True, True, True, False, (0, 2)])
        self.assertEqual(
            [table_by_members(EDGES) == table_of(EDGES), table_by_members(THREE, 2).at(2, 3), scarf(Lot(2, ())),
             scarf(Lot(2, ((0, 0),)))],
            [True, (2, 1), {(): (0, 0)}, {}])
        self.raises(InvalidProduct, members_part, EDGES, (1, 1, 0))

    def test_parts_by_all_sets_of_members(self):
        for lot in LOTS:
            for product in box(lot):
                expected = members_by_sets(lot, product)
                self.assertEqual(members_part(lot, product), tuple(expected))
                for prime in (0, 2):
                    self.assertEqual(members_holes(lot, product, prime), holes_by_ranks(expected, prime))
                self.assertEqual(members_holes(lot, product), holes_by_ranks(expected, 0))

    def test_holes_of_both_parts(self):
        for lot in LOTS + [SPHERE.quotient((1, 0, 0, 0, 0, 0))]:
            for product in box(lot):
                if lot.is_all and not any(product):
                    continue
                for prime in (0, 2, 3):
                    one, other = part_holes(lot, product, prime), members_holes(lot, product, prime)
                    size = max(len(one), len(other))
                    self.assertEqual(one + (0,) * (size - len(one)), other + (0,) * (size - len(other)))

    def test_tables(self):
        for lot in LOTS + list(some_lots(6, 40, letters=5, many=8, least=3)):
            for prime in FIELDS:
                self.assertEqual(table_by_members(lot, prime), table_of(lot, prime))
            self.assertEqual(table_by_members(lot), table_of(lot))

    def test_lone_sets(self):
        for lot in LOTS:
            found = scarf(lot)
            products = [multiple(lot, chosen) for chosen in all_sets(len(lot))]
            expected = {chosen: multiple(lot, chosen) for chosen in all_sets(len(lot))
                        if products.count(multiple(lot, chosen)) == 1}
            self.assertEqual(found, expected)
            self.assertEqual(list(found), sorted(found))
            for chosen in found:
                for at in range(len(chosen)):
                    self.assertIn(chosen[:at] + chosen[at + 1:], found)

    def test_which_lots_are_scarf(self):
        kinds = set()
        for lot in LOTS:
            for prime in (0, 2, 3):
                fine, lone = fine_table(lot, prime), scarf(lot)
                told = {}
                for chosen, product in lone.items():
                    told[len(chosen), product] = told.get((len(chosen), product), 0) + 1
                steps = [sum(n for (step, _), n in fine.items() if step == i) for i in range(9)]
                sizes = [sum(1 for chosen in lone if len(chosen) == i) for i in range(9)]
                self.assertTrue(all(low <= high for low, high in zip(sizes, steps)))
                self.assertIs(is_scarf(lot, prime), sizes == steps)
                if sizes == steps:
                    self.assertEqual(told, fine)
                kinds.add(sizes == steps)
            self.assertIs(is_scarf(lot), is_scarf(lot, 0))
        self.assertEqual(kinds, {True, False})

    def test_lots_with_unlike_exponents_are_scarf(self):
        chance = random.Random(64)
        for _ in range(40):
            letters, many = chance.randint(1, 4), chance.randint(1, 7)
            columns = [chance.sample(range(1, 9), many) for _ in range(letters)]
            columns = [[0 if chance.random() < 0.2 else exponent for exponent in column] for column in columns]
            lot = Lot(letters, tuple(zip(*columns)))
            self.assertTrue(is_scarf(lot) and is_scarf(lot, 2))

    def test_eight_members_and_nine(self):
        nine = Lot(8, tuple(tuple(int(at in (k % 8, (k + 1 + k // 8) % 8)) for at in range(8)) for k in range(9)))
        self.assertEqual(len(nine), 9)
        eight = Lot(8, nine.members[1:])
        product = (1,) * 8
        self.assertEqual(members_part(eight, product), tuple(members_by_sets(eight, product)))
        self.assertEqual(str(table_by_members(eight)).split("; ")[1], "1: 8 at 2")
        self.assertIn((), scarf(eight))
        is_scarf(eight, 97)
        for call in (members_part, members_holes):
            self.raises(TooMany(8), call, nine, product)
            self.raises(InvalidProduct, call, nine, (1,) * 7)
        self.raises(TooMany(8), members_holes, nine, product, 3)
        for call in (table_by_members, scarf, is_scarf):
            self.raises(TooMany(8), call, nine)
        letters = Lot(8, tuple(tuple(int(at == k) for at in range(8)) for k in range(8)))
        self.assertEqual(table_by_members(letters), Table({(k, k): math.comb(8, k) for k in range(9)}))
        self.assertEqual([is_scarf(letters), len(scarf(letters))], [True, 256])

    def test_results_are_not_shared(self):
        scarf(EDGES)[()] = 7
        self.assertEqual(scarf(EDGES)[()], (0, 0, 0, 0))

    def test_wrong_arguments(self):
        nine = Lot(2, tuple((k, 8 - k) for k in range(9)))
        lots, primes = (0, each(InvalidLot, NO_LOTS)), each_number(NO_FIELDS)
        products = (1, each(InvalidProduct, NO_PRODUCTS + ((1,), (1, 1, 1))))
        self.refuses(members_part, (SQUARES, (1, 1)), [lots, products], [((nine, (1, 1)), TooMany(8))])
        self.refuses(members_holes, (SQUARES, (1, 1), 0), [lots, products, (2, primes)],
                     [((nine, (1, 1), 0), TooMany(8))])
        self.refuses(table_by_members, (SQUARES, 0), [lots, (1, primes)], [((nine, 0), TooMany(8))])
        self.refuses(is_scarf, (SQUARES, 0), [lots, (1, primes)], [((nine, 0), TooMany(8))])
        self.refuses(scarf, (SQUARES,), [lots], [((nine,), TooMany(8))])

    def test_none_of_these_is_true(self):
        self.assertEqual(set(scarf(THREE)), {(), (0,), (1,), (2,)})
        shared = Lot(2, ((2, 1), (1, 2), (3, 0)))
        self.assertTrue(is_scarf(EDGES) and is_scarf(shared))
        self.assertEqual([m[1] for m in EDGES.members].count(1), 2)


class SparseTest(CheckedTest):
    def test_ranks_of_any_rows(self):
        chance = random.Random(11)
        for _ in range(300):
            height, width = chance.randint(0, 6), chance.randint(1, 6)
            rows = [[chance.choice((0, 0, 1, -1, 2, 3, 6, -4, 10 ** 59)) for _ in range(width)] for _ in range(height)]
            for prime in FIELDS:
                found = ranks_along([{at: sparse_row(row, prime) for at, row in enumerate(rows)}], prime)
                self.assertEqual(found, [rank_of(tuple(map(tuple, rows)), prime)])


if __name__ == "__main__":
    unittest.main()
