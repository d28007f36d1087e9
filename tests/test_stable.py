"""[11.1] to [11.6]: stable lots."""

import itertools
import math
import random
import unittest

from pureladders.errors import (
    InvalidLot, InvalidNumber, InvalidOperation, InvalidProduct, Refused, TooMany)
from pureladders.lot.lots import Lot
from pureladders.stable.lots import (
    closing, is_stable, is_strongly_stable, makers, split, table_by_letters, unstable, is_unstable)
from pureladders.table.tables import Table
from tests.checked import EDGES, LONGER, NESTED, NO_LOTS, NO_PRODUCTS, RING, SQUARES, CheckedTest

STABLE = Lot(3, ((2, 0, 0), (1, 1, 0), (0, 2, 0), (0, 1, 1)))
EMPTY, ALL = Lot(3, ()), Lot(3, ((0, 0, 0),))


def walked(letters, degree):
    return [p for p in itertools.product(range(degree + 1), repeat=letters) if sum(p) == degree]


def has(members, product):
    return any(all(a <= b for a, b in zip(member, product)) for member in members)


def moved(product, lower, letter):
    return tuple(e - (at == letter) + (at == lower) for at, e in enumerate(product))


def moves(product, strong):
    letters = [at for at, exponent in enumerate(product) if exponent]
    return [moved(product, lower, letter) for letter in (letters if strong else letters[-1:]) for lower in range(letter)]


def stays(lot, strong):
    """Whether no move leads out of the lot, asked for all products of some degrees."""
    most = max(lot.degrees, default=0) + 1
    inside = [p for degree in range(most + 1) for p in walked(lot.letters, degree) if has(lot.members, p)]
    return all(has(lot.members, made) for p in inside for made in moves(p, strong))


def closed(products, strong):
    """All that moves, one behind the other, make of the products, and for stable lots of multiples of them."""
    most = max(map(sum, products), default=0)
    found, waiting = set(), [tuple(p) for p in products]
    while waiting:
        product = waiting.pop()
        if product not in found and sum(product) <= most:
            found.add(product)
            waiting += moves(product, strong)
            waiting += [tuple(e + (at == index) for at, e in enumerate(product)) for index in range(len(product))]
    return tuple(sorted(p for p in found if not any(q != p and has((q,), p) for q in found)))


def some_products(seed, count, letters=3, most=3):
    chance = random.Random(seed)
    for _ in range(count):
        yield tuple(tuple(chance.randint(0, most) for _ in range(letters)) for _ in range(chance.randint(0, 4)))


LOTS = [Lot(3, rows) for rows in some_products(1, 60, most=2)] + [
    closing(3, rows, strong=strong) for rows in some_products(2, 40, most=2) for strong in (False, True)] + [
    EMPTY, ALL, STABLE, EDGES, SQUARES, RING, Lot(2, ((2, 0), (1, 1), (0, 2))), Lot(1, ((3,),))]


class StableTest(CheckedTest):
    def test_examples(self):
        found = [is_stable(STABLE), is_strongly_stable(STABLE), unstable(STABLE),
                 is_unstable(EDGES, ((0, 1, 1, 0), 1, 2)), is_unstable(SQUARES, ((1, 1), 0, 1))]
        self.assertEqual(found, [True, False, None, True, False])
        found = [table_by_letters(STABLE) == Table({(0, 0): 1, (1, 2): 4, (2, 3): 4, (3, 4): 1}),
                 split(STABLE, (1, 2, 3)), split(STABLE, (0, 2, 1))]
        self.assertEqual(found, [True, ((1, 1, 0), (0, 1, 3)), ((0, 2, 0), (0, 0, 1))])
        found = [str(closing(3, ((0, 1, 1),))), str(closing(3, ((0, 1, 1),), strong=True)),
                 makers(closing(3, ((0, 1, 1),), strong=True))]
        self.assertEqual(
            found, ["(x2 x3, x2^2, x1 x2, x1^2)", "(x2 x3, x2^2, x1 x3, x1 x2, x1^2)", ((0, 1, 1),)])
        self.raises(Refused(("stable",)), table_by_letters, EDGES)

    def test_stable_lots_by_all_moves(self):
        kinds = set()
        for lot in LOTS:
            found = (is_stable(lot), is_strongly_stable(lot))
            self.assertEqual(found, (stays(lot, False), stays(lot, True)), str(lot))
            self.assertEqual((type(found[0]), type(found[1])), (bool, bool))
            kinds.add(found)
        self.assertEqual(kinds, {(False, False), (True, False), (True, True)})
        for lot in (EMPTY, ALL, Lot(8, ()), Lot(8, ((0,) * 8,))):
            self.assertEqual((is_stable(lot), is_strongly_stable(lot)), (True, True))

    def test_what_shows_that_a_lot_is_not_stable(self):
        for lot in LOTS:
            expected = []
            for member in lot.members:
                letters = [at for at, exponent in enumerate(member) if exponent]
                for lower in range(letters[-1] if letters else 0):
                    if not has(lot.members, moved(member, lower, letters[-1])):
                        expected.append((member, lower, letters[-1]))
            if is_stable(lot):
                self.assertEqual((unstable(lot), expected), (None, []))
            else:
                self.assertIn(unstable(lot), expected)
                self.assertIs(is_unstable(lot, unstable(lot)), True)
            products = [member for member in lot.members] + [(1,) * lot.letters]
            for value in itertools.product(products, range(-1, lot.letters + 1), range(-1, lot.letters + 1)):
                self.assertIs(is_unstable(lot, value), value in expected)

    def test_which_moves_are_taken(self):
        self.assertIs(is_unstable(EDGES, ((0, 1, 1, 0), 1, 2)), True)
        for value in (None, True, 1, LONGER, "", (), [], {}, [(0, 1, 1, 0), 1, 2], ([0, 1, 1, 0], 1, 2),
                      ((0, True, 1, 0), 1, 2), ((0, 1, 1, 0), True, 2), ((0, 1, 1, 0), 1, 2, 0), ((0, 1, 1, 0), 1),
                      ((0, 1, 1, 0), 2, 1), ((0, 1, 1, 0), 0, 2), ((0, 1, 1, 0), 1, LONGER), ((0, 1, 1, 0), -3, 2),
                      (None, 1, 2), ((0, 1, 1, 0), "1", 2), ((0, 1, 1), 1, 2), (EDGES, EDGES, EDGES), NESTED,
                      ((0, 1, 1, 1), 1, 3)):
            self.assertIs(is_unstable(EDGES, value), False)
        self.assertIs(is_unstable(STABLE, None), False)

    def test_split(self):
        for lot in LOTS:
            if not is_stable(lot):
                continue
            for product in itertools.product(range(4), repeat=lot.letters):
                if not has(lot.members, product):
                    self.raises(InvalidOperation, split, lot, product)
                    continue
                pairs = []
                for member in lot.members:
                    rest = tuple(b - a for a, b in zip(member, product))
                    last = max((at for at, exponent in enumerate(member) if exponent), default=0)
                    if min(rest) >= 0 and not any(rest[:last]):
                        pairs.append((member, rest))
                self.assertEqual([split(lot, product)], pairs)
        self.assertEqual(split(ALL, (60, 0, 60)), ((0, 0, 0), (60, 0, 60)))

    def test_split_refuses(self):
        for value in NO_PRODUCTS + ((1, 0), (1, 0, 0, 0)):
            self.raises(InvalidProduct, split, STABLE, value)
            self.raises(InvalidLot, split, None, value)
        self.raises(InvalidOperation, split, STABLE, (1, 0, 5))
        self.raises(InvalidOperation, split, EMPTY, (1, 1, 1))
        self.raises(InvalidOperation, split, EDGES, (1, 0, 0, 1))
        self.raises(Refused(("stable",)), split, EDGES, (1, 1, 0, 0))
        self.raises(InvalidProduct, split, EDGES, (1, 1, 0))

    def test_counts_of_products(self):
        for lot in LOTS:
            if is_stable(lot) and not lot.is_all:
                for degree in range(7):
                    expected = sum(
                        math.comb(degree - sum(u) + len(u) - last(u) - 1, len(u) - last(u) - 1)
                        for u in lot.members if sum(u) <= degree)
                    inside = [p for p in walked(lot.letters, degree) if has(lot.members, p)]
                    self.assertEqual(len(inside), expected)

    def test_closings(self):
        for letters, seed in ((2, 5), (3, 6), (4, 7)):
            for products in some_products(seed, 25, letters, 2):
                for strong in (False, True):
                    expected = closed(products, strong)
                    if len(expected) > 24:
                        self.raises(TooMany(24), closing, letters, products, strong=strong)
                        continue
                    lot = closing(letters, products, strong=strong)
                    self.assertEqual(lot.members, expected)
                    self.assertTrue(is_strongly_stable(lot) if strong else is_stable(lot))
                    self.assertTrue(closing(letters, products) == closing(letters, products, strong=False))

    def test_small_closings(self):
        for strong in (False, True):
            self.assertTrue(closing(3, (), strong=strong) == EMPTY)
            self.assertTrue(closing(3, ((0, 0, 0),), strong=strong) == ALL)
            self.assertTrue(closing(3, ((5, 1, 1), (0, 0, 0)), strong=strong) == ALL)
            self.assertTrue(closing(1, ((5,), (8,)), strong=strong) == Lot(1, ((5,),)))
            self.assertTrue(closing(2, ((0, 1),) * 24, strong=strong) == Lot(2, ((0, 1), (1, 0))))

    def test_how_many_members_a_closing_has(self):
        self.assertEqual(len(closing(2, ((0, 8), (8, 8)))), 9)
        # All 21 products of degree 2 in the first six letters, and some with the seventh one.
        sixth = (0, 0, 0, 0, 0, 2, 0)
        sevenths = [tuple(int(at == index) for at in range(6)) + (1,) for index in range(6)]
        for strong, given in ((True, (sevenths[2],)), (False, tuple(sevenths[:3]))):
            self.assertEqual(len(closing(7, (sixth,), strong=strong)), 21)
            self.assertEqual(len(closing(7, (sixth,) + given, strong=strong)), 24)
            self.assertEqual(len(closing(7, given + (sixth, sixth), strong=strong)), 24)
            self.raises(TooMany(24), closing, 7, (sixth, sevenths[3]) + given, strong=strong)
            # One letter divides nearly all of what would be too many.
            lot = closing(7, (sixth, sevenths[3], (0, 0, 0, 0, 1, 0, 0)) + given, strong=strong)
            self.assertEqual(len(lot), 6)
        self.raises(TooMany(24), closing, 8, ((0,) * 7 + (2,),))

    def test_exponents_above_the_bound(self):
        eight = (8,) * 8
        self.raises(TooMany(60), closing, 8, (eight,))
        self.raises(TooMany(60), closing, 8, (eight, (8,) * 7 + (5,)), strong=True)
        self.raises(TooMany(24), closing, 8, ((8,) * 7 + (4,),))
        self.raises(TooMany(24), closing, 8, (eight, (8,) * 7 + (4,)))
        self.assertEqual(closing(8, (eight, (1,) + (0,) * 7)).members[-1], (1,) + (0,) * 7)
        self.assertTrue(closing(8, (eight, (0,) * 8)).is_all)
        line = closing(7, ((8, 0, 0, 0, 0, 0, 0),))
        self.assertEqual(line.members, ((8, 0, 0, 0, 0, 0, 0),))
        self.assertEqual(len(closing(8, ((8,) * 7 + (5,), (1, 1) + (0,) * 6, (2,) + (0,) * 7, (0, 2) + (0,) * 6,
                                         (1, 0, 1) + (0,) * 5, (0, 1, 1) + (0,) * 5))), 5)

    def test_closing_refuses(self):
        self.refuses_numbers(closing, 1, 8, ())
        self.raises(InvalidNumber(0), closing, 0, None, strong=None)
        for value in NO_PRODUCTS + ((1,), (1, 0, 0), (9, 0)):
            self.raises(InvalidProduct, closing, 2, (value,))
            self.raises(InvalidProduct, closing, 2, ((1, 1), value), strong=1)
        for value in (None, True, 0, LONGER, "", [], [(1, 0)], {}, {(1, 0): 1}, (1, 0), EDGES, ((1, 0),) * 25):
            self.raises(InvalidProduct, closing, 2, value)
        for value in (None, 0, 1, "", "True", (), [], {}, EDGES, LONGER):
            self.raises(InvalidOperation, closing, 2, ((1, 0),), strong=value)
            self.raises(InvalidOperation, closing, 8, ((8,) * 8,), strong=value)
        with self.assertRaises(TypeError):
            closing(2, ((1, 0),), True)

    def test_makers(self):
        for lot in LOTS:
            if not is_strongly_stable(lot):
                self.raises(Refused(("stable",)), makers, lot)
                continue
            expected = []
            for member in lot.members:
                others = tuple(other for other in lot.members if other != member)
                if not has(closed(others, True) if others else (), member):
                    expected.append(member)
            self.assertEqual(makers(lot), tuple(expected))
            self.assertTrue(closing(lot.letters, makers(lot), strong=True) == lot)
        self.raises(Refused(("stable",)), makers, STABLE)
        self.assertEqual([makers(EMPTY), makers(ALL)], [(), ((0, 0, 0),)])

    def test_tables_by_last_letters(self):
        for lot in LOTS:
            if not is_stable(lot):
                self.raises(Refused(("stable",)), table_by_letters, lot)
                continue
            expected = {} if lot.is_all else {(0, 0): 1}
            for u in lot.members:
                for step in range(1, 9):
                    many = 0 if lot.is_all else math.comb(last(u), step - 1)
                    if many:
                        place = (step, sum(u) + step - 1)
                        expected[place] = expected.get(place, 0) + many
            found = table_by_letters(lot)
            self.assertEqual((found.entries, found.bottom), ({p: expected[p] for p in sorted(expected)}, 1))
        self.assertEqual([str(table_by_letters(ALL)), str(table_by_letters(EMPTY))], ["0", "0: 1 at 0"])
        letters = Lot(8, tuple(tuple(int(i == k) for i in range(8)) for k in range(8)))
        self.assertEqual(
            str(table_by_letters(letters)),
            "0: 1 at 0; 1: 8 at 1; 2: 28 at 2; 3: 56 at 3; 4: 70 at 4; 5: 56 at 5; 6: 28 at 6; 7: 8 at 7; 8: 1 at 8")

    def test_great_exponents(self):
        lot = Lot(2, ((8, 0), (7, 1), (0, 2)))
        lot = closing(2, lot.members, strong=True).power(4)
        self.assertTrue(is_strongly_stable(lot))
        self.assertFalse(is_stable(Lot.read("(x1^60 x2)", 2)))
        self.assertEqual(unstable(Lot.read("(x1^60 x2)", 2)), ((60, 1), 0, 1))

    def test_none_of_these_is_true(self):
        self.assertEqual((is_stable(STABLE), is_strongly_stable(STABLE)), (True, False))
        self.assertIs(is_stable(Lot(2, ((0, 2), (1, 1)))), False)

    def test_wrong_lots(self):
        for value in NO_LOTS:
            for call in (is_stable, is_strongly_stable, unstable, makers, table_by_letters):
                self.raises(InvalidLot, call, value)
            self.raises(InvalidLot, is_unstable, value, None)
            self.raises(InvalidLot, split, value, (1, 1))


def last(product):
    return max(at for at, exponent in enumerate(product) if exponent)


if __name__ == "__main__":
    unittest.main()
