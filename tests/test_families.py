"""[8.1] to [8.8]: families of sets, their holes, and lots without squares."""

import itertools
import random
import unittest

from pureladders.errors import InvalidFamily, InvalidLot, InvalidNumber, InvalidOperation, Refused, TooMany
from pureladders.family import families
from pureladders.family.families import Family, family_of, lot_of, polarized, table_by_sets
from pureladders.lot.lots import Lot
from pureladders.part.members import table_by_members
from pureladders.part.parts import fine_table, table_of
from pureladders.table.tables import Table
from tests.chance import some_lots, squarefree_lots
from tests.checked import (
    EDGES, FIELDS, LONGER, NESTED, NO_FIELDS, NO_INTEGERS, NO_LOTS, NO_OBJECTS, RING, SQUARES, CheckedTest, each,
    each_number)
from tests.holes import closed, holes_by_ranks

CIRCLE = Family(4, ((0, 1), (1, 2), (2, 3), (0, 3)))
VOID, BARE = Family(3, ()), Family(3, ((),))
WHOLE = Family(8, (tuple(range(8)),))
HALF = Family(6, (
    (0, 1, 2), (0, 2, 3), (0, 3, 4), (0, 4, 5), (0, 1, 5), (1, 2, 4), (2, 3, 5), (1, 3, 4), (2, 4, 5), (1, 3, 5)))
# None of these is an ascending tuple of corners below 4.
NO_SETS = NO_OBJECTS[:-7] + (
    (1, 0), (0, 0), (0, 4), (4,), (-1,), (-1, 0), (0, 1, 1), (True,), (0, True), (False, 1), (0, None), (0, "1"),
    (LONGER,), [0, 1], [], {}, {0: 1}, (EDGES,), EDGES, ((0,),), ((),), NESTED, CIRCLE)


def all_sets(corners):
    return [chosen for size in range(corners + 1) for chosen in itertools.combinations(range(corners), size)]


def some_families(seed, count, most=6):
    chance = random.Random(seed)
    for _ in range(count):
        corners = chance.randint(1, most)
        sets = [tuple(sorted(chance.sample(range(corners), chance.randint(0, min(corners, 4)))))
                for _ in range(chance.randint(0, 8))]
        yield corners, tuple(sets)


GIVEN = list(some_families(8, 60)) + [(3, ()), (3, ((),)), (1, ((0,),)), (8, (tuple(range(8)),)), (5, ((2,), (2,)))]


class FamiliesTest(CheckedTest):
    def test_constants(self):
        self.assertEqual((families.MAX_CORNERS, families.MAX_POLARIZED), (8, 8))

    def test_examples(self):
        self.assertEqual(
            [CIRCLE.dimension, CIRCLE.euler, CIRCLE.holes(), len(CIRCLE), str(CIRCLE), (1, 3) in CIRCLE, () in CIRCLE],
            [1, -1, (0, 0, 1), 9, '01 03 12 23 on 4', False, True])
        self.assertEqual(
            [str(CIRCLE.restricted((0, 2, 3))), str(CIRCLE.link((1,))), CIRCLE.link((1,)).holes(),
             str(CIRCLE.link((0, 1))), Family(3, ()).holes(), Family(3, ((),)).holes(5)],
            ['03 23 on 4', '0 2 on 4', (0, 1), '- on 4', (), (1,)])
        self.assertEqual(
            [str(family_of(RING)), lot_of(CIRCLE) == RING, str(family_of(EDGES)), str(lot_of(Family(3, ())))],
            ['01 03 12 23 on 4', True, '02 03 13 on 4', '(1)'])
        self.assertEqual(
            [str(table_by_sets(RING)), table_by_sets(EDGES) == table_of(EDGES)],
            ['0: 1 at 0; 1: 2 at 2; 2: 1 at 4', True])
        new, names = polarized(SQUARES)
        self.assertEqual(
            [new.letters, new.members, names, table_by_sets(new) == table_of(SQUARES)],
            [5, ((0, 0, 1, 1, 1), (1, 0, 1, 0, 0), (1, 1, 0, 0, 0)), ((0, 1), (0, 2), (1, 1), (1, 2), (1, 3)), True])
        self.assertEqual(
            [str(Family(3, ((2,), (0, 1), (1,)))), list(Family(2, ((1,), (0,)))), Family(3, ((0, 1), (2,))).holes(),
             bool(Family(3, ()))],
            ['01 2 on 3', [(), (0,), (1,)], (0, 1, 0), False])
        self.raises(Refused(("squares",)), table_by_sets, SQUARES)

    def test_members_by_all_sets(self):
        for corners, given in GIVEN:
            family = Family(corners, given)
            sets = closed(given)
            self.assertEqual(list(family), sorted(sets, key=lambda one: (len(one), one)))
            self.assertEqual([len(family), bool(family), family.corners], [len(sets), bool(sets), corners])
            greatest = [one for one in sets if not any(set(one) < set(other) for other in sets)]
            self.assertEqual(family.members, tuple(sorted(greatest)))
            self.assertEqual(family.dimension, max(map(len, sets), default=-1) - 1)
            self.assertEqual(family.euler, sum((-1) ** (len(one) + 1) for one in sets))
            for chosen in all_sets(corners):
                self.assertIs(chosen in family, chosen in sets)
            self.assertEqual(Family(corners, family.members), family)
            self.assertEqual(Family(corners, tuple(sets)), family)

    def test_holes_by_ranks(self):
        for corners, given in GIVEN:
            family = Family(corners, given)
            for prime in FIELDS:
                holes = family.holes(prime)
                self.assertEqual(holes, holes_by_ranks(closed(given), prime))
                self.assertEqual(sum((-1) ** (at + 1) * number for at, number in enumerate(holes)), family.euler)
                self.assertTrue(all(low <= high for low, high in zip(family.holes(), holes)))
                self.assertEqual(bool(holes) and holes[0] == 1, list(family) == [()])
            self.assertEqual(family.holes(), family.holes(0))

    def test_cones_have_no_holes(self):
        for corners, given in GIVEN:
            if given and corners < 8:
                cone = Family(corners + 1, tuple(one + (corners,) for one in given))
                self.assertEqual(set(cone.holes()), {0})

    def test_fields_of_holes(self):
        self.assertEqual([HALF.holes(0), HALF.holes(2), HALF.holes(3)], [(0, 0, 0, 0), (0, 0, 1, 1), (0, 0, 0, 0)])
        self.assertEqual([HALF.holes(97), HALF.euler, len(HALF)], [(0, 0, 0, 0), 0, 32])

    def test_ends_of_families(self):
        self.assertEqual(
            [VOID.members, VOID.dimension, VOID.euler, VOID.holes(2), len(VOID), list(VOID), str(VOID), bool(VOID)],
            [(), -2, 0, (), 0, [], 'none on 3', False])
        self.assertEqual(
            [BARE.members, BARE.dimension, BARE.euler, BARE.holes(), len(BARE), list(BARE), str(BARE), bool(BARE)],
            [((),), -1, -1, (1,), 1, [()], '- on 3', True])
        self.assertEqual(
            [WHOLE.members, WHOLE.dimension, WHOLE.euler, WHOLE.holes(), len(WHOLE), str(WHOLE)],
            [(tuple(range(8)),), 7, 0, (0,) * 9, 256, '01234567 on 8'])
        self.assertEqual([() in VOID, () in BARE, (0,) in BARE], [False, True, False])
        hull = Family(8, tuple(itertools.combinations(range(8), 7)))
        self.assertEqual([hull.holes(2), hull.euler, len(hull)], [(0,) * 7 + (1,), 1, 255])
        lines = Family(8, tuple(itertools.combinations(range(8), 4)))
        self.assertEqual([lines.holes(), len(str(lines).split(" "))], [(0, 0, 0, 0, 35), 72])

    def test_texts(self):
        self.assertEqual(str(Family(5, ((0, 1, 2), (3, 4), (4,)))), '012 34 on 5')
        self.assertEqual(str(Family(8, ((7,), (6,), (0, 7)))), '07 6 on 8')
        self.assertEqual([str(Family(1, ())), str(Family(8, ((),)))], ['none on 1', '- on 8'])

    def test_how_many_sets_are_given(self):
        sets = tuple(all_sets(8))
        self.assertEqual(Family(8, sets), WHOLE)
        self.assertEqual(len(Family(8, sets[:255] + ((0,),))), 255)
        self.raises(InvalidFamily, Family, 8, sets + ((0,),))
        self.raises(InvalidFamily, Family, 2, ((),) * 257)
        self.assertEqual(Family(2, ((),) * 256), Family(2, ((),)))

    def test_restricted_families_and_links(self):
        for corners, given in GIVEN[:40] + GIVEN[-5:-2]:
            family = Family(corners, given)
            sets = closed(given)
            for chosen in all_sets(corners):
                inner = family.restricted(chosen)
                self.assertIs(type(inner), Family)
                self.assertEqual(inner, Family(corners, tuple(one for one in sets if set(one) <= set(chosen))))
                if chosen not in sets:
                    self.raises(InvalidOperation, family.link, chosen)
                    continue
                link = [one for one in sets if not set(one) & set(chosen) and tuple(sorted(one + chosen)) in sets]
                self.assertEqual(family.link(chosen), Family(corners, tuple(link)))
                self.assertEqual(list(family.link(chosen)), list(Family(corners, tuple(link))))
            if family:
                self.assertEqual(family.link(()), family)
            self.assertEqual(family.restricted(tuple(range(corners))), family)

    def test_which_values_are_members(self):
        for value in NO_SETS + ((0, 1, 2), (1, 3)):
            self.assertIs(value in CIRCLE, False)
            self.assertIs(value not in CIRCLE, True)
            self.raises(InvalidOperation, CIRCLE.link, value)
            if value not in ((0, 1, 2), (1, 3)):
                self.raises(InvalidOperation, CIRCLE.restricted, value)
        self.assertIs((0, 3) in CIRCLE, True)

    def test_equal_families(self):
        self.assertEqual(Family(4, ((0, 3), (2, 3), (1, 2), (0, 1), (2,))), CIRCLE)
        others = (Family(5, CIRCLE.members), Family(4, CIRCLE.members[1:]), Family(4, ()), EDGES, RING, Table({}),
                  str(CIRCLE), CIRCLE.members, list(CIRCLE)) + NO_OBJECTS
        for other in others:
            self.assertIs(CIRCLE == other, False)
            self.assertIs(CIRCLE != other, True)
        self.assertNotEqual(VOID, BARE)
        self.assertNotEqual(Family(2, ()), VOID)
        self.assertIs(CIRCLE != Family(4, CIRCLE.members), False)

    def test_properties_cannot_be_set(self):
        for name in ("corners", "members", "dimension", "euler"):
            with self.assertRaises(AttributeError):
                setattr(CIRCLE, name, None)

    def test_wrong_arguments(self):
        sets = NO_OBJECTS[:10] + tuple((one,) for one in NO_SETS if one != ()) + (
            [(0, 1)], ((0, 1), [2]), {(0, 1): 1}, EDGES, CIRCLE)
        sets = tuple(one for one in sets if one != () and one != ((),))
        self.refuses(Family, (4, ((0, 1),)), [
            (0, each_number(NO_INTEGERS + (0, 9))), (1, each(InvalidFamily, sets))])
        self.refuses(CIRCLE.holes, (0,), [(0, each_number(NO_FIELDS))])
        for prime in (2, 89, 97):
            CIRCLE.holes(prime)

    def test_none_of_these_is_true(self):
        self.assertTrue(sum(HALF.holes()) == 0 and sum(HALF.holes(2)) > 0)
        self.assertEqual([Family(3, ((0, 1), (2,))).holes(), Family(3, ((0, 1), (2,))).link((2,)).holes()], [(0, 1, 0), (1,)])
        self.assertEqual([Family(3, ((0, 1, 2),)).restricted((0, 1)).holes(), CIRCLE.restricted((0, 2)).holes()],
                         [(0, 0, 0), (0, 1)])


class LotsTest(CheckedTest):
    def test_families_of_lots(self):
        for lot in list(squarefree_lots(88, 60)) + [RING, EDGES, Lot(3, ()), Lot(3, ((0, 0, 0),))]:
            family = family_of(lot)
            products = {one: tuple(int(at in one) for at in range(lot.letters)) for one in all_sets(lot.letters)}
            self.assertEqual(family.corners, lot.letters)
            self.assertEqual(sorted(family), sorted(one for one in products if products[one] not in lot))
            self.assertEqual(lot_of(family), lot)

    def test_lots_of_families(self):
        for corners, given in GIVEN:
            family = Family(corners, given)
            lot = lot_of(family)
            self.assertTrue(lot.is_squarefree)
            self.assertEqual(Lot(corners, lot.members), lot)
            self.assertEqual(family_of(lot), family)

    def test_ends(self):
        self.assertEqual(lot_of(VOID), Lot(3, ((0, 0, 0),)))
        self.assertEqual(family_of(Lot(3, ((0, 0, 0),))), VOID)
        self.assertEqual(lot_of(BARE), Lot(3, ((1, 0, 0), (0, 1, 0), (0, 0, 1))))
        self.assertEqual([lot_of(WHOLE), family_of(Lot(8, ()))], [Lot(8, ()), WHOLE])

    def test_more_than_24_least_members(self):
        four = list(itertools.combinations(range(8), 4))
        for lacking in (24, 25, 70):
            sets = [one for one in all_sets(8) if not any(set(least) <= set(one) for least in four[::-1][:lacking])]
            family = Family(8, tuple(sets))
            if lacking == 24:
                self.assertEqual(len(lot_of(family)), 24)
            else:
                self.raises(TooMany(24), lot_of, family)
        self.refuses(lot_of, (CIRCLE,), [(0, each(InvalidFamily, NO_OBJECTS + (EDGES, Table({}))))],
                     [((family,), TooMany(24))])

    def test_tables_by_sets(self):
        lots = list(squarefree_lots(89, 40, letters=5)) + [RING, EDGES, Lot(3, ()), Lot(3, ((0, 0, 0),)), lot_of(HALF)]
        for lot in lots:
            for prime in FIELDS:
                self.assertEqual(table_by_sets(lot, prime), table_of(lot, prime))
            self.assertEqual(table_by_sets(lot), table_of(lot))
        self.assertNotEqual(table_by_sets(lot_of(HALF), 2), table_by_sets(lot_of(HALF)))

    def test_tables_by_restricted_families(self):
        """[8.6] at each set of letters alone."""
        for lot in squarefree_lots(90, 25, letters=5):
            fine = fine_table(lot, 2)
            family = family_of(lot)
            for chosen in all_sets(lot.letters):
                product = tuple(int(at in chosen) for at in range(lot.letters))
                holes = family.restricted(chosen).holes(2)
                for step in range(9):
                    at = len(chosen) - step
                    number = holes[at] if 0 <= at < len(holes) else 0
                    self.assertEqual(number, fine.get((step, product), 0))

    def test_tables_in_eight_letters(self):
        rows = [tuple(int(at in one) for at in range(8)) for one in itertools.combinations(range(8), 3)]
        lot = Lot(8, tuple(rows[::8]))
        self.assertEqual([len(lot), table_by_sets(lot, 2)], [7, table_by_members(lot, 2)])
        letters = Lot(8, tuple(tuple(int(at == k) for at in range(8)) for k in range(8)))
        self.assertEqual(table_by_sets(letters).at(8, 8), (1, 1))
        self.assertEqual(table_by_sets(letters), table_by_members(letters))

    def test_wrong_lots(self):
        lots = (0, each(InvalidLot, NO_LOTS + (CIRCLE,)))
        squares = Refused(("squares",))
        self.refuses(family_of, (EDGES,), [lots], [((SQUARES,), squares), ((Lot(2, ((2, 0),)),), squares)])
        self.refuses(table_by_sets, (EDGES, 0), [lots, (1, each_number(NO_FIELDS))], [((SQUARES, 0), squares)])
        self.raises(InvalidNumber(4), table_by_sets, SQUARES, 4)


class PolarizedTest(CheckedTest):
    def check_polarized(self, lot):
        new, names = polarized(lot)
        tops = [max(m[at] for m in lot.members) for at in range(lot.letters)]
        self.assertEqual(names, tuple((at, k) for at, top in enumerate(tops) for k in range(1, top + 1)))
        expected = [tuple(int(m[at] >= k) for at, k in names) for m in lot.members]
        self.assertEqual(new, Lot(len(names), tuple(expected)))
        self.assertEqual(new.members, tuple(sorted(expected)))
        self.assertEqual([new.degrees, len(new), new.is_squarefree], [lot.degrees, len(lot), True])
        for prime in (0, 2):
            table = table_by_members(lot, prime) if len(lot) <= 8 else table_of(lot, prime)
            self.assertEqual(table_by_sets(new, prime), table)

    def test_polarized_lots(self):
        seen = 0
        for lot in some_lots(91, 80, letters=5, many=5, most=3):
            tops = [max([m[at] for m in lot.members], default=0) for at in range(lot.letters)]
            if sum(tops) == 0:
                self.raises(Refused(("letters",)), polarized, lot)
            elif sum(tops) > 8:
                self.raises(TooMany(8), polarized, lot)
            else:
                self.check_polarized(lot)
                seen += 1
        self.assertGreater(seen, 40)

    def test_letters_that_stand_in_no_member(self):
        self.assertEqual(polarized(Lot(4, ((0, 2, 0, 0), (0, 1, 0, 1)))),
                         (Lot(3, ((1, 1, 0), (1, 0, 1))), ((1, 1), (1, 2), (3, 1))))
        self.assertEqual(polarized(Lot(8, ((0,) * 7 + (1,),))), (Lot(1, ((1,),)), ((7, 1),)))
        for lot in (Lot(2, ()), Lot(2, ((0, 0),)), Lot(8, ())):
            self.raises(Refused(("letters",)), polarized, lot)

    def test_seven_eight_and_nine_new_letters(self):
        for many in (7, 8):
            self.check_polarized(Lot(2, ((many - 3, 1), (0, 3))))
            self.check_polarized(Lot(1, ((many,),)))
        self.check_polarized(Lot(8, tuple(tuple(int(at == k) for at in range(8)) for k in range(8))))
        self.raises(TooMany(8), polarized, Lot(2, ((6, 1), (0, 3))))
        self.raises(TooMany(8), polarized, Lot(2, ((8, 1),)))
        self.raises(TooMany(8), polarized, Lot(1, ((8,),)).power(2))
        self.refuses(polarized, (SQUARES,), [(0, each(InvalidLot, NO_LOTS))], [((Lot(2, ((8, 1),)),), TooMany(8))])


if __name__ == "__main__":
    unittest.main()
