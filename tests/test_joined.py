"""[16.1] to [16.5]: lots side by side and apart, products of tables, cut letters, and cones."""

import itertools
import random
import unittest
from fractions import Fraction

from pureladders.errors import InvalidLot, InvalidOperation, InvalidProduct, InvalidTable, Refused, TooMany
from pureladders.join import joined
from pureladders.join.joined import (
    cone, cone_neighbours, cut_at, meet_apart, side_by_side, table_apart, table_product)
from pureladders.lot.lots import Lot
from pureladders.part.parts import fine_table, table_of
from pureladders.row.counts import dimension, left_counts, numerator, weight
from pureladders.table.tables import Table
from tests.chance import some_lots
from tests.checked import (
    EDGES, LONGER, NESTED, NO_FIELDS, NO_INTEGERS, NO_LOTS, NO_PRODUCTS, RING, SIXTY, SQUARES, CheckedTest, each, each_number)
from tests.fractions_by_hand import as_table, by_place, some_tables
from tests.test_parts import ABOVE
from tests.test_tables import NO_TABLES

LINE = Lot(1, ((2,),))
NOTHING = Table({})
ENDS = [Lot(n, members) for n in (1, 2) for members in ((), ((0,) * n,))]


def pairs_of_lots(seed, count):
    """Pairs of lots by chance, the empty lot and that of all products among them on each side."""
    few = list(some_lots(seed, count, letters=3, many=4, most=3))
    yield from zip(few, few[1:])
    for lot in few[:6] + ENDS:
        for end in ENDS:
            yield lot, end
            yield end, lot


def walked(letters, most):
    return itertools.product(range(most + 1), repeat=letters)


def product_by_look(one, other, less=0):
    """The sums of products of numbers whose places add up, as a dict."""
    total = {}
    for (a, b), told in one.items():
        for (c, d), more in other.items():
            place = (a + c - less, b + d)
            total[place] = total.get(place, 0) + told * more
    return {place: told for place, told in total.items() if told}


def apart_by_look(one, other):
    over, under = [{place: told for place, told in by_place(table).items() if place[0] > 0} for table in (one, other)]
    return {(0, 0): Fraction(1), **product_by_look(over, under, 1)}


def staircase(many):
    """So many least members in two letters."""
    return Lot(2, tuple((at, many - 1 - at) for at in range(many)))


class JoinedTest(CheckedTest):
    def test_examples(self):
        self.assertEqual(joined.MAX_JOINED, 8)
        self.assertEqual(
            [str(side_by_side(SQUARES, LINE)), str(meet_apart(SQUARES, LINE))],
            ['(x3^2, x2^3, x1 x2, x1^2)', '(x2^3 x3^2, x1 x2 x3^2, x1^2 x3^2)'])
        joint, line = side_by_side(SQUARES, LINE), table_of(LINE)
        self.assertEqual(
            [table_of(joint) == table_product(table_of(SQUARES), line),
             table_of(meet_apart(SQUARES, LINE)) == table_apart(table_of(SQUARES), line)], [True, True])

    def test_products_of_both(self):
        for one, other in pairs_of_lots(190, 25):
            side, meet = side_by_side(one, other), meet_apart(one, other)
            self.assertEqual([side.letters, meet.letters], [one.letters + other.letters] * 2)
            for first, last in itertools.product(walked(one.letters, 3), walked(other.letters, 3)):
                self.assertIs(first + last in side, first in one or last in other)
                self.assertIs(first + last in meet, first in one and last in other)

    def test_least_members(self):
        for one, other in pairs_of_lots(191, 30):
            n, k = one.letters, other.letters
            if one.is_all or other.is_all:
                self.assertTrue(side_by_side(one, other).is_all)
            else:
                expected = [m + (0,) * k for m in one.members] + [(0,) * n + m for m in other.members]
                self.assertEqual(side_by_side(one, other).members, tuple(sorted(expected)))
            expected = [m + p for m in one.members for p in other.members]
            self.assertEqual(meet_apart(one, other).members, tuple(sorted(expected)))

    def test_tables(self):
        """[16.1], [16.2]: over each field, with numerators, dimensions and weights."""
        for one, other in pairs_of_lots(192, 40):
            side = side_by_side(one, other)
            for prime in (0, 2, 97):
                tables = table_of(one, prime), table_of(other, prime)
                self.assertEqual(table_of(side, prime), table_product(*tables))
                if not one.is_all and not other.is_all:
                    self.assertEqual(table_of(meet_apart(one, other), prime), table_apart(*tables))
            if not one.is_all and not other.is_all:
                over, under = numerator(one), numerator(other)
                total = product_by_look({(0, j): told for j, told in over.items()}, {(0, j): told for j, told in under.items()})
                self.assertEqual(numerator(side), {j: total[0, j] for _, j in sorted(total)})
                self.assertEqual(dimension(side), dimension(one) + dimension(other))
                self.assertEqual(weight(side), weight(one) * weight(other))

    def test_how_many_letters(self):
        four, five, eight, one = Lot(4, ((1, 1, 1, 1),)), Lot(5, ((0,) * 5,)), Lot(8, ()), Lot(1, ((0,),))
        for call in (side_by_side, meet_apart):
            self.assertEqual(call(four, EDGES).letters, 8)
            self.raises(TooMany(8), call, four, five)
            self.raises(TooMany(8), call, eight, one)
            self.raises(TooMany(8), call, one, eight)
            self.raises(TooMany(8), call, eight, eight)
        self.assertEqual(side_by_side(Lot(7, ()), one).members, ((0,) * 8,))
        self.assertEqual(meet_apart(Lot(7, ()), one).members, ())

    def test_how_many_members(self):
        nine, three = staircase(9), staircase(3)
        twelve = side_by_side(nine, three)
        self.assertEqual(len(twelve), 12)
        self.assertEqual(len(side_by_side(twelve, twelve)), 24)
        self.raises(TooMany(24), side_by_side, twelve, side_by_side(nine, staircase(4)))
        self.assertEqual(len(meet_apart(staircase(4), staircase(6))), 24)
        self.raises(TooMany(24), meet_apart, staircase(5), staircase(5))
        great = side_by_side(twelve, nine)
        self.assertEqual(len(great), 21)
        self.assertTrue(side_by_side(great, Lot(2, ((0, 0),))).is_all)
        self.assertEqual(len(meet_apart(great, Lot(2, ((0, 0),)))), 21)
        self.raises(TooMany(24), meet_apart, great, staircase(2))
        # More letters ahead of more least members.
        self.raises(TooMany(8), side_by_side, great, side_by_side(nine, LINE))

    def test_great_exponents(self):
        power = SQUARES.power(4)
        self.assertEqual(max(map(max, power.members)), 12)
        self.assertEqual(side_by_side(power, power).degrees[-1], 12)
        self.assertEqual(cut_at(power, 0), Lot(1, ((8,),)).meet(Lot(1, ((6,),)) * Lot(1, ((6,),))))

    def test_wrong_lots(self):
        for call in (side_by_side, meet_apart):
            self.refuses(call, (SQUARES, LINE), ((0, each(InvalidLot, NO_LOTS)), (1, each(InvalidLot, NO_LOTS))), (
                ((Lot(5, ()), Lot(4, ())), TooMany(8)),
                ((side_by_side(staircase(9), staircase(9)), side_by_side(staircase(9), staircase(2))), TooMany(24))))


class TablesTest(CheckedTest):
    def test_tables_of_every_sort(self):
        given = list(some_tables(193, 120, last=4, most=9, least=-4))
        for one, other in zip(given, given[1:]):
            self.assertEqual(table_product(one, other), as_table(product_by_look(by_place(one), by_place(other))))
            self.assertEqual(table_apart(one, other), as_table(apart_by_look(one, other)))
            self.assertEqual(table_product(one, other), table_product(other, one))
        for table in given[:10]:
            self.assertEqual([table_product(table, NOTHING), table_product(NOTHING, table)], [NOTHING, NOTHING])
            for other in (NOTHING, Table({(0, 3): 7})):
                self.assertEqual([table_apart(table, other), table_apart(other, table)], [Table({(0, 0): 1})] * 2)
            self.assertEqual(table_product(table, Table({(0, 0): 1})), table)

    def test_steps(self):
        def at(step, degree=0):
            return Table({(0, 0): 1, (step, degree): -1})
        for step in range(1, 9):
            self.raises(TooMany(8), table_product, at(step), at(9 - step))
            self.assertEqual(table_apart(at(step), at(9 - step)), Table({(0, 0): 1, (8, 0): 1}))
        for step in range(1, 8):
            self.assertEqual(table_product(at(step), at(8 - step)).at(8, 0), (1, 1))
        for step in range(2, 9):
            self.raises(TooMany(8), table_apart, at(step), at(10 - step))
        self.raises(TooMany(8), table_product, at(8), at(8))
        # Step 0 alone makes nothing behind it.
        self.assertEqual(table_apart(Table({(0, 480): 1}), at(8, 480)), Table({(0, 0): 1}))

    def test_degrees(self):
        def at(degree, step=1):
            return Table({(step, 0): 1, (step, degree): -1})
        for degree in (1, 100, 240, 479):
            self.assertEqual(table_product(at(degree), at(480 - degree)).at(2, 480), (1, 1))
            self.assertEqual(table_apart(at(degree), at(480 - degree)).at(1, 480), (1, 1))
            for call in (table_product, table_apart):
                self.raises(TooMany(480), call, at(degree), at(481 - degree))
                # A step that is too great comes first.
                self.raises(TooMany(8), call, at(degree, 8), at(481 - degree, 8))
        self.raises(TooMany(480), table_product, Table({(0, 240): 1}), Table({(8, 241): 1}))
        self.assertEqual(table_apart(Table({(0, 240): 1}), Table({(8, 241): 1})), Table({(0, 0): 1}))

    def test_numbers_that_vanish(self):
        """Numbers of 0 come nowhere, and those at the ends do not vanish."""
        one, other = Table({(0, 0): 1, (1, 1): 1}), Table({(0, 0): 1, (1, 1): -1})
        self.assertEqual(table_product(one, other), Table({(0, 0): 1, (2, 2): -1}))
        self.assertEqual(list(table_product(one, other).entries), [(0, 0), (2, 2)])
        mixed = Table({(4, 3): 1, (5, 2): 1})
        self.raises(TooMany(8), table_product, mixed, Table({(4, 3): 1, (3, 4): -1}))

    def test_great_integers(self):
        one, other = Table({(1, 1): SIXTY}, SIXTY - 1), Table({(1, 2): SIXTY - 2}, SIXTY - 4)
        great = table_product(one, other)
        self.assertEqual(great.at(2, 3), (SIXTY * (SIXTY - 2), (SIXTY - 1) * (SIXTY - 4)))
        self.assertEqual(table_apart(one, other).at(1, 3), great.at(2, 3))
        self.assertEqual(table_apart(one, other).at(0, 0), (1, 1))

    def test_wrong_tables(self):
        for call in (table_product, table_apart):
            self.refuses(call, (NOTHING, NOTHING), ((0, each(InvalidTable, NO_TABLES)), (1, each(InvalidTable, NO_TABLES))), (
                ((Table({(8, 0): 1}), Table({(8, 0): 1})), TooMany(8)),
                ((Table({(1, 480): 1}), Table({(1, 1): 1})), TooMany(480))))


class CutTest(CheckedTest):
    def test_examples(self):
        self.assertEqual(
            [str(cut_at(EDGES, 1)), str(cut_at(EDGES, 1, one=True)), str(cut_at(SQUARES, 0)), str(cut_at(SQUARES, 0, one=True))],
            ['(x2 x3)', '(x2, x1)', '(x1^3)', '(1)'])
        self.raises(Refused(("letters",)), cut_at, Lot(1, ((2,),)), 0)

    def test_products_of_cut_lots(self):
        ends = [Lot(2, ()), Lot(2, ((0, 0),)), Lot(8, ((1,) * 8,))]
        for lot in list(some_lots(194, 60)) + [EDGES, SQUARES, RING] + ends:
            for letter in range(lot.letters if lot.letters > 1 else 0):
                zero, one = cut_at(lot, letter), cut_at(lot, letter, one=True)
                self.assertEqual([zero.letters, one.letters], [lot.letters - 1] * 2)
                self.assertEqual(zero, cut_at(lot, letter, one=False))
                for product in walked(lot.letters - 1, 4 if lot.letters < 5 else 1):
                    self.assertIs(product in zero, product[:letter] + (0,) + product[letter:] in lot)
                    self.assertIs(product in one, product[:letter] + (60,) + product[letter:] in lot)

    def test_tables_of_cut_lots(self):
        """[16.3]."""
        for lot in some_lots(195, 40):
            for letter in range(lot.letters if lot.letters > 1 and not lot.is_all else 0):
                for prime in (0, 2):
                    fine = fine_table(lot, prime)
                    expected = {(step, product[:letter] + product[letter + 1:]): told for (step, product), told in fine.items()
                                if product[letter] == 0}
                    self.assertEqual(fine_table(cut_at(lot, letter), prime), expected)
                    cut = table_of(cut_at(lot, letter, one=True), prime).entries
                    whole = table_of(lot, prime).entries
                    for step in range(9):
                        self.assertLessEqual(sum(told for (at, _), told in cut.items() if at == step),
                                             sum(told for (at, _), told in whole.items() if at == step))

    def test_wrong_arguments(self):
        self.refuses(lambda lot, letter, one: cut_at(lot, letter, one=one), (EDGES, 0, False), (
            (0, each(InvalidLot, NO_LOTS)), (1, each_number(NO_INTEGERS + (-1, 4))),
            (2, each(InvalidOperation, (None, 0, 1, LONGER, "", "True", (), (True,), [], {}, NESTED, EDGES)))), (
            ((LINE, 0, False), Refused(("letters",))), ((LINE, 0, True), Refused(("letters",))), ((Lot(1, ()), 0, True), Refused(("letters",)))))
        self.raises(TypeError, cut_at, EDGES, 0, True)


class ConeTest(CheckedTest):
    def test_examples(self):
        self.assertEqual(
            (cone_neighbours(EDGES, (0, 1, 0, 0)), cone_neighbours(SQUARES, (2, 2)), cone_neighbours(SQUARES, (1, 0))),
            ({(1, 2): 2, (2, 3): 1}, {}, {(1, 2): 2, (2, 3): 1}))

    def check_cone(self, lot, product, prime):
        """Check the three tables, and the numbers by which two of them differ from the third one."""
        degree, n = sum(product), lot.letters
        tables = cone(lot, product, prime)
        lots = lot, lot.quotient(product), lot + Lot(n, (product,))
        self.assertIsInstance(tables, tuple)
        self.assertEqual(tables, tuple(table_of(one, prime) for one in lots))
        self.assertEqual(cone(lot, product), tuple(table_of(one) for one in lots))
        found = cone_neighbours(lot, product, prime)
        self.assertEqual(list(found), sorted(found))
        self.assertTrue(all(type(told) is int and told > 0 for told in found.values()))
        first, second, third = (table.entries for table in tables)
        for i, j in itertools.product(range(n + 2), range(sum(map(max, zip(product, *lot.members))) + 2)):
            less = first.get((i, j), 0) + second.get((i - 1, j - degree), 0) - third.get((i, j), 0)
            self.assertEqual(less, found.get((i, j), 0) + found.get((i - 1, j), 0))
        if product in lot:
            self.assertEqual(found, {})
        counts = [left_counts(one, 12) for one in lots]
        for e in range(13):
            later = counts[1][e - degree] if e >= degree else 0
            self.assertEqual(counts[0][e], counts[2][e] + later)
        return bool(found)

    def test_cones_by_chance(self):
        chance = random.Random(196)
        found = set()
        for lot in list(some_lots(197, 60)) + [EDGES, SQUARES, RING, Lot(3, ()), Lot(2, ((0, 0),))]:
            for _ in range(3):
                product = tuple(chance.choice((0, 0, 1, 2, chance.randint(0, 8))) for _ in range(lot.letters))
                for prime in (0, 2, 3):
                    found.add((self.check_cone(lot, product, prime), product in lot))
            self.check_cone(lot, (0,) * lot.letters, 0)
            self.check_cone(lot, (8,) * lot.letters, 5)
        self.assertEqual(found, {(True, False), (False, False), (False, True)})

    def test_all_letters(self):
        eight = Lot(8, tuple(tuple(2 * int(at == k) for at in range(8)) for k in range(3)))
        self.check_cone(eight, (1, 1, 0, 0, 0, 1, 0, 0), 0)
        # All tables and neighbours go to the last step.
        few = Lot(4, tuple(tuple(3 * int(at == k) for at in range(4)) for k in range(4)))
        self.check_cone(few, (1, 1, 1, 1), 0)
        self.assertEqual(max(step for step, _ in cone_neighbours(few, (1, 1, 1, 1))), 4)

    def test_the_primes(self):
        half = Lot(6, tuple(tuple(int(at in chosen) for at in range(6)) for chosen in (
            (0, 1, 3), (0, 1, 4), (0, 2, 4), (0, 2, 5), (0, 3, 5), (1, 2, 3), (1, 2, 5), (1, 4, 5), (2, 3, 4), (3, 4, 5))))
        for prime in (0, 2, 3):
            self.check_cone(half, (1, 0, 0, 0, 0, 0), prime)
        self.assertNotEqual(cone(half, (1, 0, 0, 0, 0, 0), 2), cone(half, (1, 0, 0, 0, 0, 0), 3))

    def test_wrong_arguments(self):
        products = tuple(value for value in NO_PRODUCTS if value not in ((1,) * 9,)) + ((1, 1, 1), (1,) * 5, (9, 0, 0, 0), (0, 0, 0, 60))
        squares = Lot(8, ABOVE[32])
        # 24 least members, and one more with the product.
        full = Lot(4, tuple((a, b, 6 - a - b, 0) for a in range(7) for b in range(7 - a))[:24])
        self.assertEqual(len(full), 24)
        for call in (cone, cone_neighbours):
            self.refuses(call, (EDGES, (1, 0, 1, 0), 2), (
                (0, each(InvalidLot, NO_LOTS)), (1, each(InvalidProduct, products)), (2, each_number(NO_FIELDS))), (
                ((squares, (0,) * 8, 0), TooMany(8000)), ((full, (6, 0, 0, 0), 2), TooMany(24))))
            self.raises(TooMany(8000), call, squares, (1,) + (0,) * 7)

    def test_refused_tables(self):
        """The lot with the product is asked ahead of the tables, and these in their sequence."""
        wide = Lot(8, tuple(tuple(int(at == k) + int(at == (k + 1) % 8) for at in range(8)) for k in range(8)))
        self.raises(TooMany(8000), table_of, wide)
        self.raises(TooMany(8000), cone, wide, (1, 0, 1, 0, 1, 0, 1, 0))
        # The lot itself has a table, but with the product it has none.
        some = Lot(8, tuple(tuple(int(at == k) for at in range(8)) for k in range(4)))
        self.assertIsInstance(table_of(some), Table)
        more = (0, 0, 0, 0, 1, 1, 1, 1)
        self.raises(TooMany(8000), table_of, some + Lot(8, (more, (0, 0, 0, 0, 2, 0, 0, 0))))
        self.raises(TooMany(8000), cone, some + Lot(8, ((0, 0, 0, 0, 2, 0, 0, 0),)), more)

    def test_what_is_not_true(self):
        """[16.5]."""
        zero, one = table_of(cut_at(EDGES, 1)), table_of(cut_at(EDGES, 1, one=True))
        self.assertGreater(zero.at(1, 2), one.at(1, 2))
        self.assertNotEqual(cone_neighbours(SQUARES, (1, 0)), {})
        first, second = Lot(2, ((1, 0),)), Lot(2, ((0, 1),))
        self.assertEqual(table_of(first), table_of(second))
        self.assertNotEqual(table_of(first + first), table_of(first + second))
        self.assertGreater(one.at(1, 1), table_of(EDGES).at(1, 1))


if __name__ == "__main__":
    unittest.main()
