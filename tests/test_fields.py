"""[17.1] to [17.6], [0.19]: over which primes holes and tables are not those over the fractions."""

import itertools
import random
import unittest

from pureladders.base.ranks import divisors_of
from pureladders.base.sparse import divisors_above_one
from pureladders.errors import InvalidFamily, InvalidLot, InvalidNumber, InvalidProduct, TooMany
from pureladders.family.families import Family, lot_of
from pureladders.family.links import dual
from pureladders.field.fields import (
    boundary_divisors, dividing_primes, field_neighbours, half_sphere, is_same_everywhere, part_divisors)
from pureladders.lot.lots import Lot, multiples
from pureladders.part.parts import fine_table, part, table_of
from pureladders.pure.sums import neighbours
from pureladders.stable.lots import closing
from pureladders.straight.orders import is_straight, letter_order
from tests.chance import some_lots, squarefree_lots
from tests.checked import (
    EDGES, NO_FIELDS, NO_LOTS, NO_OBJECTS, NO_PRODUCTS, RING, SQUARES, CheckedTest, each, each_number)
from tests.holes import boundary_table
from tests.test_families import some_families
from tests.test_parts import ABOVE

PRIMES = [p for p in range(2, 98) if all(p % q for q in range(2, p))]
HALF = half_sphere()
SPHERE = lot_of(HALF)
# A ring of three corners that bounds if it is gone around three times.
THREE = Family(8, (
    (0, 1, 3), (0, 1, 5), (0, 1, 6), (0, 2, 4), (0, 2, 6), (0, 2, 7), (0, 3, 4), (0, 5, 7), (1, 2, 4), (1, 2, 5),
    (1, 2, 7), (1, 3, 7), (1, 4, 6), (2, 3, 5), (2, 3, 6), (3, 4, 6), (3, 5, 7)))
# Lots with just as many multiples as there may be, and with one more.
TWO_HUNDRED = Lot(5, (
    (0, 0, 0, 4, 4), (0, 1, 4, 4, 3), (0, 2, 4, 5, 0), (0, 4, 1, 2, 0), (1, 1, 0, 5, 2), (2, 0, 2, 4, 1),
    (2, 0, 3, 4, 0), (3, 0, 2, 0, 2), (3, 2, 0, 3, 3), (4, 2, 1, 0, 0), (4, 3, 0, 0, 3)))
ONE_MORE = Lot(5, (
    (0, 0, 4, 0, 4), (0, 4, 0, 4, 0), (0, 5, 0, 2, 2), (1, 0, 0, 0, 5), (2, 0, 3, 2, 4), (3, 1, 2, 5, 4),
    (3, 2, 0, 4, 2), (3, 2, 4, 0, 1), (3, 3, 1, 0, 4), (4, 0, 0, 3, 0)))


def tables_of_sets(sets):
    """The boundary tables of a family with these members, by dimensions, as [17.1] tells them."""
    last = max(map(len, sets), default=0)
    levels = [sorted(one for one in sets if len(one) == size) for size in range(last + 1)]
    return {size - 1: boundary_table(levels[size], levels[size - 1]) for size in range(1, last + 1)}


def great_divisors(sets):
    """The elementary divisors above 1 of all boundary tables."""
    found = {k: tuple(d for d in divisors_of(rows) if d > 1) for k, rows in tables_of_sets(sets).items()}
    return {k: divisors for k, divisors in found.items() if divisors}


def some_complexes(seed, count):
    """Families of triangles and more on six to eight corners, of which a part have divisors."""
    chance = random.Random(seed)
    for _ in range(count):
        corners = chance.randint(6, 8)
        sets = list(itertools.combinations(range(corners), 3))
        yield Family(corners, tuple(chance.sample(sets, chance.randint(8, 14))))


def renamed(family, names):
    return Family(family.corners, tuple(tuple(sorted(names[corner] for corner in one)) for one in family.members))


SPECIAL = [HALF, Family(3, ()), Family(3, ((),)), Family(1, ((0,),)), Family(8, (tuple(range(8)),)), THREE,
           Family(8, HALF.members + ((0, 6), (6, 7), (0, 7))), Family(7, tuple(one + (6,) for one in HALF.members)),
           Family(8, tuple(one + (top,) for one in HALF.members for top in (6, 7)))]


class DivisorsTest(CheckedTest):
    def test_families(self):
        seen = set()
        given = [Family(corners, sets) for corners, sets in some_families(200, 60)]
        for family in given + list(some_complexes(201, 30)) + SPECIAL:
            found = boundary_divisors(family)
            self.assertEqual(found, great_divisors(list(family)))
            self.assertEqual(list(found), sorted(found))
            self.check_holes(family, found)
            seen.update(found.items())
        self.assertTrue(seen >= {(2, (2,)), (3, (2,)), (2, (3,))})

    def check_holes(self, family, divisors):
        """[17.2]: holes over primes are those over the fractions and more, as the divisors tell."""
        for prime in (2, 3, 5, 97):
            def more(k):
                return sum(d % prime == 0 for d in divisors.get(k, ()))
            holes = [told + (more(k - 1) + more(k) if k else more(0)) for k, told in enumerate(family.holes())]
            self.assertEqual(family.holes(prime), tuple(holes))

    def test_the_half_sphere(self):
        """[17.5]."""
        self.assertIsInstance(HALF, Family)
        self.assertEqual(str(HALF), "012 015 023 034 045 124 134 135 235 245 on 6")
        self.assertEqual(len(HALF.members), 10)
        for pair in itertools.combinations(range(6), 2):
            self.assertEqual(sum(set(pair) < set(one) for one in HALF.members), 2)
        for prime in [0] + PRIMES:
            self.assertEqual(HALF.holes(prime), (0, 0, 1, 1) if prime == 2 else (0, 0, 0, 0))
        self.assertEqual(dual(HALF), HALF)
        self.assertEqual(boundary_divisors(HALF), {2: (2,)})

    def test_repeats(self):
        """No small family has a divisor twice: so rows of other integers are asked."""
        chance = random.Random(211)
        seen = set()
        for _ in range(600):
            width = chance.randint(1, 6)
            rows = [[chance.choice((0, 0, 0, 1, -1, 2, 3, -4, 6)) for _ in range(width)] for _ in range(chance.randint(0, 6))]
            expected = tuple(d for d in divisors_of(tuple(map(tuple, rows))) if d > 1)
            self.assertEqual(divisors_above_one([{at: entry for at, entry in enumerate(row) if entry} for row in rows]), expected)
            seen.add(len(expected) - len(set(expected)))
        self.assertTrue(seen >= {0, 1, 2})

    def test_parts(self):
        chance = random.Random(202)
        seen = set()
        for lot in list(some_lots(203, 40)) + [EDGES, SQUARES, RING, SPHERE, Lot(3, ()), Lot(3, ((0, 0, 0),))]:
            given = list(multiples(lot)) + [tuple(chance.randint(0, 3) for _ in range(lot.letters)) for _ in range(4)]
            for product in given:
                found = part_divisors(lot, product)
                self.assertEqual(found, great_divisors(part(lot, product)))
                seen.update(found.items())
                # [17.4]: parts other than those at the multiples have no divisors above 1.
                self.assertTrue(not found or product in multiples(lot))
        self.assertEqual(seen, {(2, (2,))})
        self.assertEqual([part_divisors(SPHERE, (1,) * 6), part_divisors(SPHERE, (2,) * 6), part_divisors(SPHERE, (60,) * 6),
                          part_divisors(SPHERE, (0,) * 6)], [{2: (2,)}, {}, {}, {}])

    def test_wrong_arguments(self):
        for value in NO_OBJECTS + (EDGES,):
            self.raises(InvalidFamily, boundary_divisors, value)
        self.refuses(part_divisors, (EDGES, (1, 1, 0, 0)), (
            (0, each(InvalidLot, NO_LOTS + (HALF,))), (1, each(InvalidProduct, NO_PRODUCTS + ((1, 1, 1), (1,) * 5)))))


class PrimesTest(CheckedTest):
    def test_examples(self):
        self.assertEqual(
            [len(SPHERE), SPHERE.degrees[-1], dividing_primes(SPHERE), field_neighbours(SPHERE, 2), field_neighbours(SPHERE, 3),
             part_divisors(SPHERE, (1, 1, 1, 1, 1, 1))], [10, 3, (2,), {(3, 6): 1}, {}, {2: (2,)}])
        self.assertEqual(
            [is_same_everywhere(EDGES), dividing_primes(SQUARES), is_same_everywhere(SPHERE),
             boundary_divisors(Family(3, ((0, 1), (0, 2), (1, 2))))], [True, (), False, {}])
        self.raises(InvalidNumber(4), field_neighbours, SPHERE, 4)

    def check_lot(self, lot):
        """Check the primes that divide the lot, and the tables over them and over others; these primes."""
        found = dividing_primes(lot)
        self.assertEqual(found, tuple(sorted(set(found))))
        self.assertIs(is_same_everywhere(lot), not found)
        divisors = [d for product in multiples(lot) for row in great_divisors(part(lot, product)).values() for d in row]
        self.assertEqual(found, tuple(p for p in range(2, max(divisors, default=0) + 1)
                                      if all(p % q for q in range(2, p)) and any(d % p == 0 for d in divisors)))
        for prime in (2, 3, 5, 97):
            told = field_neighbours(lot, prime)
            self.assertEqual(list(told), sorted(told))
            self.assertTrue(all(type(many) is int and many > 0 for many in told.values()))
            self.assertEqual({place: (many, 1) for place, many in told.items()}, neighbours(table_of(lot, prime), table_of(lot)))
            self.assertIs(bool(told), prime in found)
            self.assertIs(table_of(lot, prime) == table_of(lot), prime not in found)
        return found

    def test_lots(self):
        for lot in list(some_lots(204, 30)) + [EDGES, SQUARES, RING, Lot(3, ()), Lot(3, ((0, 0, 0),))]:
            self.assertEqual(self.check_lot(lot), ())
        for lot in list(squarefree_lots(205, 20)) + [SPHERE]:
            self.check_lot(lot)
        self.assertEqual(self.check_lot(SPHERE), (2,))

    def test_sphere_lots(self):
        chance = random.Random(206)
        for _ in range(4):
            names = chance.sample(range(6), 6)
            lot = lot_of(renamed(HALF, names))
            self.assertEqual(self.check_lot(lot), (2,))
            powers = Lot(6, tuple(tuple(exponent * (at % 3 + 1) for at, exponent in enumerate(m)) for m in lot.members))
            self.assertEqual(self.check_lot(powers), (2,))
        wide = Lot(7, tuple(m + (0,) for m in SPHERE.members) + ((0, 0, 0, 0, 0, 0, 2),))
        self.raises(TooMany(8000), field_neighbours, wide, 2)
        self.assertEqual(dividing_primes(wide), (2,))

    def test_fine_numbers(self):
        """[17.3]: b(i, m) over a prime is that over the fractions, and as many more as the divisors tell."""
        for lot in (SPHERE, EDGES, SQUARES):
            plain = fine_table(lot, 0)
            for prime in (2, 3):
                fine = fine_table(lot, prime)
                for product in multiples(lot):
                    def more(k):
                        return sum(d % prime == 0 for d in part_divisors(lot, product).get(k, ()))
                    for i in range(1, lot.letters + 2):
                        self.assertEqual(fine.get((i, product), 0), plain.get((i, product), 0) + more(i - 2) + more(i - 1))

    def test_lots_that_no_prime_divides(self):
        """[17.4]: with an order of letters, stable ones, few letters, and pairs."""
        chance = random.Random(207)
        for _ in range(12):
            products = tuple(tuple(chance.randint(0, 2) for _ in range(3)) for _ in range(2))
            self.assertEqual(dividing_primes(closing(3, products)), ())
        ordered = 0
        for lot in squarefree_lots(208, 60, many=7):
            if lot and not lot.is_all and letter_order(lot) is not None:
                ordered += 1
                self.assertEqual(dividing_primes(lot), ())
        self.assertGreater(ordered, 10)
        for lot in squarefree_lots(209, 40, letters=5):
            self.assertEqual(dividing_primes(lot), ())
        for _ in range(12):
            pairs = chance.sample(list(itertools.combinations(range(7), 2)), chance.randint(1, 7))
            lot = Lot(7, tuple(tuple(int(at in pair) for at in range(7)) for pair in pairs))
            self.assertEqual(dividing_primes(lot), ())

    def test_how_many_multiples(self):
        self.assertEqual(len(multiples(TWO_HUNDRED)), 200)
        self.raises(TooMany(200), multiples, ONE_MORE)
        self.assertEqual(
            [dividing_primes(TWO_HUNDRED), is_same_everywhere(TWO_HUNDRED), field_neighbours(TWO_HUNDRED, 97)], [(), True, {}])
        self.raises(TooMany(200), dividing_primes, ONE_MORE)
        self.raises(TooMany(200), is_same_everywhere, ONE_MORE)
        self.raises(TooMany(200), field_neighbours, ONE_MORE, 2)

    def test_other_primes(self):
        self.assertEqual([boundary_divisors(THREE), THREE.holes(), THREE.holes(3)], [{2: (3,)}, (0, 0, 0, 0), (0, 0, 1, 1)])
        lot = Lot(8, tuple(tuple(int(at not in one) for at in range(8)) for one in THREE.members))
        self.assertEqual(set(part(lot, (1,) * 8)), set(THREE))
        self.assertEqual([dividing_primes(lot), is_same_everywhere(lot), part_divisors(lot, (1,) * 8)], [(3,), False, {2: (3,)}])
        # Its table is too much work, but its primes are told.
        self.raises(TooMany(8000), field_neighbours, lot, 3)

    def test_wrong_arguments(self):
        wide, squares = Lot(8, tuple(tuple(int(at == k) for at in range(8)) for k in range(8))), Lot(8, ABOVE[32])
        for call in (dividing_primes, is_same_everywhere):
            for value in NO_LOTS + (HALF,):
                self.raises(InvalidLot, call, value)
            self.raises(TooMany(200), call, wide)
            self.assertIn(call(squares), ((), True))
        self.refuses(field_neighbours, (EDGES, 2), (
            (0, each(InvalidLot, NO_LOTS + (HALF,))), (1, each_number(NO_FIELDS + (0,)))), (
            ((wide, 2), TooMany(200)), ((squares, 97), TooMany(8000))))

    def test_what_is_not_true(self):
        """[17.6]."""
        self.assertNotEqual(table_of(SPHERE, 2), table_of(SPHERE))
        places = [place for place, told in (table_of(SPHERE, 2) - table_of(SPHERE)).entries.items() if told > 0]
        self.assertEqual(places, [(3, 6), (4, 6)])
        self.assertEqual([is_straight(SPHERE), is_straight(SPHERE, 2)], [True, False])


if __name__ == "__main__":
    unittest.main()
