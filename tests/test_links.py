"""[9.1] to [9.6]: duals, links and whole families."""

import itertools
import unittest

from pureladders.errors import InvalidFamily, InvalidLot, InvalidNumber, Refused, TooMany
from pureladders.family.families import Family, family_of, lot_of, table_by_sets
from pureladders.family.links import dual, dual_lot, hole_below, is_hole_below, is_whole, table_by_links
from pureladders.lot.lots import Lot
from pureladders.part.parts import fine_table, table_of
from pureladders.straight.orders import is_straight
from pureladders.table.tables import Table
from tests.chance import squarefree_lots
from tests.checked import (
    EDGES, FIELDS, LONG, LONGER, NESTED, NO_FIELDS, NO_LOTS, NO_OBJECTS, RING, SQUARES, CheckedTest, each, each_number)
from tests.test_families import GIVEN, HALF, VOID, WHOLE, all_sets

PATH, APART = Family(4, ((0, 1), (1, 2), (2, 3))), Family(4, ((0, 1), (2, 3)))
FAMILIES = [Family(corners, given) for corners, given in GIVEN]
LOTS = list(squarefree_lots(92, 50)) + [RING, EDGES, Lot(3, ()), Lot(3, ((0, 0, 0),)), Lot(1, ()), Lot(1, ((0,),))]
# Eight corners in pairs: the least sets that the family lacks are the two of a pair; its dual lot has 16 members.
PAIRS = Lot(8, tuple(tuple(int(at // 2 == k) for at in range(8)) for k in range(4)))
# Products of four of eight letters, whose dual lots have 24 and 25 least members.
GREAT = tuple(
    Lot(8, tuple(tuple(int(str(at) in one) for at in range(8)) for one in text.split(" ")))
    for text in ("0134 0135 0234 0247 0257 0567 1236 1237 1245 1246 1247 1357 3567",
                 "0135 0145 0245 0246 0257 0346 1234 1245 1267 1347 1567 2457 3456"))


def complement(chosen, corners):
    return tuple(at for at in range(corners) if at not in chosen)


def holes_below(family, prime):
    """All pairs that show that the family is not whole, ascending."""
    found = []
    for member in sorted(family):
        link = family.link(member)
        found += [(member, at - 1) for at, number in enumerate(link.holes(prime)) if number and at - 1 < link.dimension]
    return found


class DualsTest(CheckedTest):
    def test_examples(self):
        self.assertEqual(
            [dual(PATH).members, dual(dual(PATH)) == PATH, dual_lot(EDGES).members, dual(Family(2, ())).members],
            [((0, 2), (1, 2), (1, 3)), True, ((0, 1, 0, 1), (0, 1, 1, 0), (1, 0, 1, 0)), ((0, 1),)])
        self.assertEqual(
            [is_whole(PATH), is_whole(APART), hole_below(APART), is_hole_below(APART, 0, ((), 0)),
             is_hole_below(PATH, 0, ((), 0))],
            [True, False, ((), 0), True, False])
        self.assertEqual(
            [table_by_links(EDGES) == table_of(EDGES), is_whole(family_of(EDGES)), is_whole(Family(3, ()))],
            [True, True, True])
        self.raises(Refused(("squares",)), dual_lot, SQUARES)

    def test_duals(self):
        for family in FAMILIES:
            other = dual(family)
            self.assertIs(type(other), Family)
            self.assertEqual(other.corners, family.corners)
            expected = [complement(one, family.corners) for one in all_sets(family.corners) if one not in family]
            self.assertEqual(sorted(other), sorted(expected))
            self.assertEqual(list(other), sorted(expected, key=lambda one: (len(one), one)))
            self.assertEqual(dual(other), family)
        self.assertEqual([dual(VOID), dual(Family(3, ((0, 1, 2),))), dual(WHOLE)],
                         [Family(3, ((0, 1, 2),)), VOID, Family(8, ())])
        self.assertEqual(dual(HALF), HALF)

    def test_holes_of_duals(self):
        for family in FAMILIES:
            if not family or len(family) == 2 ** family.corners:
                continue
            for prime in (0, 2, 3):
                one, other = family.holes(prime), dual(family).holes(prime)
                for dimension in range(-1, family.corners):
                    at = family.corners - dimension - 3 + 1
                    here = other[dimension + 1] if dimension + 1 < len(other) else 0
                    self.assertEqual(here, one[at] if 0 <= at < len(one) else 0)

    def test_dual_lots(self):
        for lot in LOTS:
            other = dual_lot(lot)
            family = family_of(lot)
            self.assertEqual(other, lot_of(dual(family)))
            lacking = [tuple(int(at not in one) for at in range(lot.letters)) for one in family.members]
            self.assertEqual(other.members, tuple(sorted(lacking)))
            self.assertEqual(dual_lot(other), lot)
        self.assertEqual([dual_lot(Lot(3, ())).is_all, len(dual_lot(Lot(3, ((0, 0, 0),))))], [True, 0])
        self.assertEqual(len(dual_lot(PAIRS)), 16)

    def test_more_than_24_least_members(self):
        few, lot = GREAT
        self.assertEqual([len(dual_lot(few)), len(family_of(lot).members)], [24, 25])
        self.assertEqual(table_by_links(few, 2), table_by_sets(few, 2))
        squares = Refused(("squares",))
        for call, args in ((dual_lot, ()), (table_by_links, (0,)), (table_by_links, ())):
            self.raises(TooMany(24), call, lot, *args)
        lots, primes = (0, each(InvalidLot, NO_LOTS + (PATH,))), each_number(NO_FIELDS)
        self.refuses(dual_lot, (EDGES,), [lots], [((SQUARES,), squares), ((lot,), TooMany(24))])
        self.refuses(table_by_links, (EDGES, 0), [lots, (1, primes)], [((SQUARES, 0), squares), ((lot, 0), TooMany(24))])
        both = Lot(8, lot.members + ((0, 0, 0, 0, 0, 0, 0, 2),))
        self.raises(squares, dual_lot, both)
        self.raises(squares, table_by_links, both)

    def test_tables_by_links(self):
        for lot in LOTS + [lot_of(HALF)]:
            for prime in FIELDS:
                try:
                    table = table_of(lot, prime)
                except TooMany:
                    continue
                self.assertEqual(table_by_links(lot, prime), table)
            self.assertEqual(table_by_links(lot), table_by_links(lot, 0))
        self.assertEqual(table_by_links(PAIRS), Table({(0, 0): 1, (1, 2): 4, (2, 4): 6, (3, 6): 4, (4, 8): 1}))
        self.assertNotEqual(table_by_links(lot_of(HALF), 2), table_by_links(lot_of(HALF)))

    def test_fine_tables_by_links(self):
        """[9.3] at each set of corners alone."""
        for family in FAMILIES[:40]:
            lot = lot_of(dual(family))
            if lot.is_all:
                continue
            for prime in (0, 2):
                fine = fine_table(lot, prime)
                for chosen in all_sets(family.corners):
                    member = complement(chosen, family.corners)
                    product = tuple(int(at in chosen) for at in range(family.corners))
                    holes = family.link(member).holes(prime) if member in family else ()
                    for step in range(1, 9):
                        number = holes[step - 1] if step <= len(holes) else 0
                        self.assertEqual(fine.get((step, product), 0), number)

    def test_wrong_families(self):
        for value in NO_OBJECTS + (EDGES, Table({})):
            self.raises(InvalidFamily, dual, value)


class WholeTest(CheckedTest):
    def test_whole_families(self):
        kinds = set()
        for family in FAMILIES + [PATH, APART, HALF, VOID, WHOLE]:
            for prime in (0, 2, 3):
                pairs = holes_below(family, prime)
                self.assertEqual(hole_below(family, prime), pairs[0] if pairs else None)
                self.assertIs(is_whole(family, prime), not pairs)
                kinds.add(bool(pairs))
                if family.corners > 5:
                    continue
                for member in all_sets(family.corners):
                    for dimension in range(-2, family.corners + 1):
                        value = (member, dimension)
                        self.assertIs(is_hole_below(family, prime, value), value in pairs)
            self.assertIs(is_whole(family), is_whole(family, 0))
            self.assertEqual(hole_below(family), hole_below(family, 0))
            if is_whole(family):
                self.assertLessEqual(len({len(one) for one in family.members}), 1)
                for member in family:
                    self.assertIs(is_whole(family.link(member)), True)
        self.assertEqual(kinds, {True, False})

    def test_families_of_low_dimension(self):
        for corners in (1, 3, 4):
            for size in range(corners + 1):
                self.assertIs(is_whole(Family(corners, tuple((k,) for k in range(size)))), True)
        for many in range(1, 7):
            for chosen in itertools.combinations(itertools.combinations(range(4), 2), many):
                for alone in ((), ((3,),)):
                    family = Family(4, chosen + alone)
                    whole = {len(one) for one in family.members} == {2} and family.holes()[1] == 0
                    self.assertIs(is_whole(family, 5), whole)

    def test_the_least_pair(self):
        ring = Family(8, ((0, 1, 2), (3, 4, 5), (2, 3), (6, 7)))
        self.assertEqual(hole_below(ring), ((), 0))
        book = Family(6, ((0, 1, 2), (2, 3, 4)))
        self.assertEqual([hole_below(book), is_hole_below(book, 0, ((2,), 0)), is_hole_below(book, 0, ((), 0))],
                         [((2,), 0), True, False])
        low = Family(6, ((0, 1), (1, 2), (0, 2), (3, 4, 5)))
        self.assertEqual([low.holes(), hole_below(low)], [(0, 1, 1, 0), ((), 0)])
        self.assertEqual([is_hole_below(low, 0, ((), k)) for k in range(-1, 4)], [False, True, True, False, False])
        # As tuples compare (0, 5) stands ahead of (1,), and sets of one size are not all ahead of greater ones.
        two = Family(7, ((1, 6), (0, 1, 2, 5), (0, 3, 4, 5)))
        pairs = holes_below(two, 0)
        self.assertEqual([hole_below(two), pairs == sorted(pairs)], [pairs[0], True])
        self.assertIn(((0, 5), 0), pairs)
        self.assertLess(pairs.index(((0, 5), 0)), pairs.index(((1,), 0)))

    def test_whole_and_straight(self):
        """[9.5] and [10.4]."""
        kinds = set()
        for lot in LOTS + [lot_of(HALF), dual_lot(lot_of(HALF))]:
            other = dual_lot(lot)
            for prime in (0, 2):
                plain = len(other) == 0 or other.is_all
                whole = plain or is_straight(other, prime)
                self.assertIs(is_whole(family_of(lot), prime), whole)
                kinds.add((plain, whole))
        self.assertEqual(kinds, {(True, True), (False, True), (False, False)})

    def test_the_half_sphere(self):
        self.assertEqual([is_whole(HALF), is_whole(HALF, 2), is_whole(HALF, 3)], [True, False, True])
        self.assertEqual([hole_below(HALF), hole_below(HALF, 2)], [None, ((), 1)])
        self.assertEqual([is_hole_below(HALF, 2, ((), 1)), is_hole_below(HALF, 0, ((), 1)),
                          is_hole_below(HALF, 2, ((), 2))], [True, False, False])
        lot = lot_of(HALF)
        self.assertEqual([is_straight(lot), is_straight(lot, 2)], [True, False])

    def test_which_values_show_a_hole(self):
        for value in NO_OBJECTS + (
                (), ((),), ((), 0, 0), [(), 0], ([], 0), ((), False), ((), True), ((), None), ((), "0"), ((), (0,)),
                ((), LONG), ((), -LONGER), ((0,), 0), ((4,), 0), ((True,), 0), (0, 0), (None, 0), EDGES, APART,
                (APART, 0), ((APART,), 0), NESTED, (((),), 0), ((), 1), ((), -1), ((0, 2), 0)):
            self.assertIs(is_hole_below(APART, 0, value), False)
        line = Family(6, ((0, 1, 2), (1, 3, 4)))
        self.assertEqual([is_hole_below(line, 0, ((1,), 0)), is_hole_below(line, 0, ((True,), 0)),
                          is_hole_below(line, 0, ((1,), False))], [True, False, False])

    def test_wrong_arguments(self):
        wrong, primes = (0, each(InvalidFamily, NO_OBJECTS + (EDGES,))), (1, each_number(NO_FIELDS))
        self.refuses(is_whole, (PATH, 0), [wrong, primes])
        self.refuses(hole_below, (PATH, 0), [wrong, primes])
        self.refuses(is_hole_below, (PATH, 0, None), [wrong, primes])
        self.raises(InvalidNumber(4), is_whole, VOID, 4)
        self.raises(InvalidNumber(4), is_hole_below, VOID, 4, ((), 0))

    def test_none_of_these_is_true(self):
        self.assertEqual([len(one) for one in APART.members], [2, 2])
        pieces = Family(4, ((0, 1), (1, 2), (2, 3), (0, 3)))
        self.assertEqual([is_whole(pieces), is_whole(dual(pieces))], [True, False])
        book = Family(5, ((0, 1, 2), (2, 3, 4)))
        self.assertEqual([book.holes(), is_whole(book)], [(0, 0, 0, 0), False])


if __name__ == "__main__":
    unittest.main()
