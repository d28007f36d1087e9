"""[0.15] to [0.20], and what the sections tell not to be true: statements over several parts of the program."""

import itertools
import unittest

from pureladders.base.integers import binomial
from pureladders.base.ranks import divisors_of, rank_of, solved
from pureladders.errors import TooMany
from pureladders.family.families import Family, lot_of, polarized, table_by_sets
from pureladders.family.links import dual, dual_lot, is_whole, table_by_links
from pureladders.field.fields import dividing_primes, half_sphere
from pureladders.lot.lots import Lot, multiples
from pureladders.part.members import is_scarf, members_part, scarf, table_by_members
from pureladders.part.parts import fine_table, table_of
from pureladders.pure.chains import taking_off
from pureladders.pure.degrees import whole_pure
from pureladders.pure.sums import neighbours
from pureladders.pure.weights import is_weights, weights_against
from pureladders.row.counts import dimension, left_counts, numerator, steady_row, weight
from pureladders.row.growth import (
    first_lot, first_lot_like, first_products, growth_bound, is_first_lot, is_met, row_bar)
from pureladders.rung.ladders import Ladder, cut_down, is_ladder, is_least, ladder_fault, least_ladder, taylor, told_lot
from pureladders.stable.lots import is_stable, is_strongly_stable, table_by_letters
from pureladders.straight.orders import is_letter_order, is_straight, letter_order, table_by_order
from pureladders.straight.pairs import web_paper
from pureladders.table.tables import Table
from tests.chance import some_lots, squarefree_lots
from tests.checked import EDGES, FIELDS, RING, SQUARES, CheckedTest
from tests.test_straight import one_degree_lots

HALF = half_sphere()
SPHERE = lot_of(HALF)
THREE = Lot(3, ((1, 1, 0), (1, 0, 1), (0, 1, 1)))
POWERS = Lot(3, ((2, 0, 0), (1, 1, 0), (0, 2, 0)))


class MainStatementsTest(CheckedTest):
    def test_chains_or_weights(self):
        """[0.15]: of each table of a window, with small numbers at few places."""
        found = {True: 0, False: 0}
        places = ((0, 0), (0, 1), (1, 1), (1, 2), (2, 2))
        for numbers in itertools.product((0, 1, 2), repeat=len(places)):
            table = Table(dict(zip(places, numbers)))
            is_sum = taking_off(table)[0] == "chain"
            weights = weights_against(table, 2, 2)
            self.assertIs(weights is None, is_sum)
            self.assertTrue(is_sum or is_weights(table, 2, 2, weights))
            found[is_sum] += 1
        self.assertEqual(sum(found.values()), 3 ** 5)
        self.assertGreater(min(found.values()), 20)

    def test_tables_of_all_ways(self):
        """[0.16]."""
        ways = set()
        for lot in some_lots(270, 80, letters=3, many=5, most=3):
            for prime in (0, 2):
                table = table_of(lot, prime)
                tables = {"members": table_by_members(lot, prime), "ladder": least_ladder(lot, prime).table} if lot else {}
                if lot.is_all:
                    tables = {"members": table_by_members(lot, prime)}
                try:
                    whole = polarized(lot)[0] if lot and not lot.is_all else lot
                    tables.update({"sets": table_by_sets(whole, prime), "links": table_by_links(whole, prime)})
                except TooMany:
                    pass
                if is_stable(lot):
                    tables["letters"] = table_by_letters(lot)
                order = letter_order(lot) if lot and not lot.is_all else None
                if order is not None and list(map(sum, order)) == sorted(map(sum, order)):
                    tables["order"] = table_by_order(lot, order)
                for way, told in tables.items():
                    self.assertEqual(told, table, (way, lot.members))
                ways.update(tables)
                self.assertEqual(taking_off(table)[0], "chain")
        self.assertEqual(ways, {"members", "ladder", "sets", "links", "letters", "order"})

    def test_rows(self):
        """[0.17]: just the rows that grow within the bounds are those of lots, and first lots have the greatest tables."""
        rows = set()
        products = [p for p in itertools.product(range(4), repeat=2) if sum(p) < 4]
        for many in range(5):
            for members in itertools.combinations(products, many):
                rows.add(left_counts(Lot(2, members), 3))
        for row in itertools.product(range(2), range(3), range(4), range(5)):
            self.assertIs(row_bar(2, row) is None, row in rows)
        for row in rows:
            self.assertEqual(left_counts(first_lot(2, row), 3), row)
        for lot in some_lots(271, 60, letters=2, many=4, most=4):
            first = first_lot_like(lot)
            self.assertIsNotNone(neighbours(table_of(first), table_of(lot)))

    def test_straight_lots(self):
        """[0.18]: by whole duals, and of pairs by rings."""
        for lot in one_degree_lots(272, 80):
            if lot.is_squarefree and not lot.is_all:
                family = dual(Family(lot.letters, tuple(
                    chosen for size in range(lot.letters + 1) for chosen in itertools.combinations(range(lot.letters), size)
                    if tuple(int(at in chosen) for at in range(lot.letters)) not in lot)))
                self.assertIs(is_straight(lot), is_whole(family))
        pairs = list(itertools.combinations(range(4), 2))
        for many in range(1, 7):
            for chosen in itertools.combinations(pairs, many):
                lot = Lot(4, tuple(tuple(int(at in pair) for at in range(4)) for pair in chosen))
                self.assertIs(is_straight(lot), web_paper(lot)[0] == "order")

    def test_fields(self):
        """[0.19]."""
        for lot in list(squarefree_lots(273, 25)) + [SPHERE]:
            for prime in FIELDS[1:]:
                over, plain = table_of(lot, prime), table_of(lot)
                self.assertTrue(all(told >= plain.entries.get(place, 0) for place, told in over.entries.items()))
                self.assertTrue(set(plain.entries) <= set(over.entries))
                self.assertIs(over == plain, prime not in dividing_primes(lot))

    def test_what_is_not_true(self):
        """[0.20]."""
        one, other = Lot(3, ((0, 0, 1), (1, 1, 0))), Lot(3, ((0, 0, 1), (2, 0, 0)))
        self.assertEqual(table_of(one), table_of(other))
        self.assertNotEqual(one.is_squarefree, other.is_squarefree)
        # Three at the place (0, 0), where each lot has 1 at most.
        self.assertEqual(whole_pure((0, 2, 5))[0].at(0, 0), (3, 1))
        # With an order of letters it would be straight over 2.
        self.assertEqual([is_straight(SPHERE), is_straight(SPHERE, 2)], [True, False])
        late = Lot(2, ((2, 0), (0, 4)))
        self.assertEqual([is_met(late, 2), is_met(late, 3)], [True, False])
        self.assertEqual([len(least_ladder(SQUARES)), len(taylor(SQUARES))], [6, 8])
        gap = Table({(0, 0): 1, (2, 3): 1})
        self.assertEqual(taking_off(gap), ("stuck", (), ("gap", 1)))
        for place in itertools.product(range(3), range(4)):
            self.assertFalse(is_weights(gap, 2, 3, {place: 1}) or is_weights(gap, 2, 3, {place: -1}))


class NotTrueTest(CheckedTest):
    """Each statement has an example that shows that it is not true."""

    def test_stage_1(self):
        self.assertEqual(divisors_of(((2, 0), (0, 3))), (1, 6))
        self.assertEqual([solved(((4,),), (2,), prime=p)[0] for p in (0, 2, 3)], ["solution"] * 3)
        self.assertEqual(solved(((4,),), (2,)), ("solution", (1,), 2))
        for rows in itertools.product(itertools.product((0, 1, 2), repeat=2), repeat=2):
            self.assertLessEqual(rank_of(rows, 2), rank_of(rows))

    def test_stage_2(self):
        line = Lot(1, ((1,),))
        self.assertNotEqual(line * line, line.meet(line))
        self.assertEqual(len(EDGES + EDGES), 3)
        self.assertEqual([len(SQUARES.power(2)), binomial(4, 2)], [5, 6])
        self.assertEqual(len(EDGES.quotient((0, 0, 0, 0))), 3)
        self.assertEqual(multiples(Lot(2, ())), multiples(Lot(2, ((0, 0),))))

    def test_stage_3(self):
        one, other = Lot(3, ((1, 0, 0),)), Lot(3, ((2, 0, 0), (1, 1, 0)))
        self.assertEqual([dimension(one), weight(one)], [dimension(other), weight(other)])
        self.assertNotEqual(steady_row(one), steady_row(other))
        self.assertLess(len(one), len(other))
        self.assertGreater(numerator(EDGES)[3], 0)
        plain = Lot(2, ((2, 0), (0, 2)))
        self.assertEqual(left_counts(plain, 40), left_counts(SQUARES, 40))
        self.assertNotEqual(len(plain), len(SQUARES))

    def test_stage_4(self):
        self.assertNotEqual(growth_bound(5, 2), growth_bound(5, 1))
        self.assertEqual([is_stable(POWERS), is_first_lot(POWERS)], [True, False])
        members = [m for m in first_lot(3, (1, 3, 4, 2)).members if sum(m) == 3]
        self.assertFalse(set(members) & set(first_products(3, 3, 3)))

    def test_stage_5(self):
        self.assertEqual(fine_table(THREE, 0)[2, (1, 1, 1)], 2)
        fine = fine_table(SPHERE, 2)
        self.assertEqual([fine[step, (1,) * 6] for step in (3, 4)], [1, 1])
        one, other = Lot(3, ((0, 0, 1), (1, 1, 0))), Lot(3, ((0, 0, 1), (2, 0, 0)))
        self.assertEqual(table_of(one), table_of(other))
        self.assertEqual([sum(map(any, zip(*lot.members))) for lot in (one, other)], [3, 2])
        inner, outer = Lot(2, ((1, 1),)), Lot(2, ((1, 0), (0, 1)))
        self.assertTrue(all(member in outer for member in inner))
        self.assertGreater(table_of(inner).at(1, 2), table_of(outer).at(1, 2))

    def test_stage_6(self):
        lone = scarf(THREE)
        self.assertTrue((0,) in lone and (1,) in lone and (0, 1) not in lone)
        self.assertFalse(is_scarf(THREE))
        self.assertTrue(is_scarf(EDGES))
        lot = Lot(4, ((0, 1, 0, 1), (0, 1, 1, 0), (1, 0, 0, 1), (1, 0, 1, 0), (2, 0, 0, 0)))
        self.assertEqual(fine_table(lot, 0)[3, (1, 1, 1, 1)], 1)
        self.assertNotEqual(members_part(lot, (1, 1, 1, 1)), ())
        for chosen in itertools.combinations(lot.members, 3):
            whole = tuple(map(max, *chosen))
            less = [tuple(map(max, *pair)) for pair in itertools.combinations(chosen, 2)]
            self.assertFalse(whole == (1, 1, 1, 1) and whole not in less)

    def test_stage_7(self):
        line, double = Lot(1, ((1,),)), Ladder(1, (((0,),), ((1,),)), (((2,),),))
        self.assertEqual([is_ladder(line, double), is_ladder(line, double, 2)], [True, False])
        self.assertTrue(is_least(double) and double != least_ladder(line))
        ladder = taylor(SQUARES)
        short = Ladder(2, ladder.rungs[:2], ladder.maps[:1])
        self.assertEqual([told_lot(short) == SQUARES, ladder_fault(SQUARES, short)], [True, ("hole", (1, 3), 1)])
        least = cut_down(ladder)
        more = [[rung for rung in step if step.count(rung) > low.count(rung)] for step, low in zip(
            ladder.rungs, least.rungs + ((),))]
        self.assertEqual(more, [[], [], [(2, 3)], [(2, 3)]])

    def test_stage_8(self):
        self.assertEqual([any(HALF.holes()), any(HALF.holes(2))], [False, True])
        path = Family(3, ((0, 1), (1, 2)))
        self.assertEqual([path.holes(), path.link((1,)).holes()], [(0, 0, 0), (0, 1)])
        self.assertEqual([Family(3, ((0,),)).holes()[0], len(path), len(Family(3, ((0, 1),)))], [0, 6, 4])
        self.assertEqual([path.holes(), Family(3, ((0, 1),)).holes()], [(0, 0, 0)] * 2)
        self.assertEqual(path.restricted((0, 2)).holes(), (0, 1))

    def test_stage_9(self):
        apart = Family(4, ((0, 1), (2, 3)))
        self.assertEqual([len(member) for member in apart.members], [2, 2])
        self.assertFalse(is_whole(apart))
        self.assertEqual([is_whole(HALF), is_whole(HALF, 2)], [True, False])
        bent = Family(5, ((0, 3, 4), (2, 3, 4)))
        self.assertEqual([is_whole(bent), is_whole(dual(bent))], [True, False])
        touching = Family(5, ((0, 1, 2), (2, 3, 4)))
        self.assertEqual([touching.holes()[:-1], is_whole(touching)], [(0, 0, 0), False])

    def test_stage_10(self):
        self.assertEqual([is_straight(SPHERE), is_straight(SPHERE, 2), len(SPHERE) > 8], [True, False, True])
        order = letter_order(EDGES)
        self.assertEqual({is_letter_order(EDGES, row) for row in itertools.permutations(order)}, {True, False})
        one, other = Lot(4, ((1, 0, 1, 0),)), Lot(4, ((0, 1, 0, 1),))
        self.assertEqual([is_straight(one), is_straight(other), is_straight(one + other)], [True, True, False])

    def test_stage_11(self):
        lot = Lot(3, ((2, 0, 0), (1, 1, 0), (0, 2, 0), (0, 1, 1)))
        self.assertEqual([is_stable(lot), is_strongly_stable(lot)], [True, False])
        self.assertEqual([is_strongly_stable(POWERS), is_first_lot(POWERS)], [True, False])
        told = sum(max(at for at, e in enumerate(member) if e) for member in EDGES.members)
        self.assertNotEqual((told, 1), table_of(EDGES).at(2, 3))
        stable, other = Lot(2, ((2, 0), (1, 1))), Lot(2, ((0, 2), (1, 1)))
        self.assertEqual(table_of(stable), table_of(other))
        self.assertEqual([is_stable(stable), is_stable(other)], [True, False])

    def test_stage_15(self):
        one = Lot(4, ((0, 0, 1, 1), (0, 3, 1, 0), (1, 1, 0, 0)))
        other = Lot(4, ((0, 0, 2, 0), (0, 1, 1, 0), (2, 0, 0, 1)))
        self.assertEqual(numerator(one), numerator(other))
        tables = table_of(one), table_of(other)
        self.assertEqual([neighbours(*tables), neighbours(*tables[::-1])], [None, None])

    def test_stage_17(self):
        lots = list(squarefree_lots(274, 60)) + [SPHERE, dual_lot(SPHERE)]
        self.assertEqual({prime for lot in lots for prime in dividing_primes(lot)}, {2})
        self.assertEqual(dual_lot(SPHERE), SPHERE)


if __name__ == "__main__":
    unittest.main()
