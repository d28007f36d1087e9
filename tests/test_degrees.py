"""[12.1] to [12.3]: pure degrees, their tables, and which are below others."""

import itertools
import math
import random
import unittest

from pureladders.base.ranks import rank_of
from pureladders.errors import InvalidDegrees, InvalidNumber
from pureladders.pure import degrees as module
from pureladders.pure.degrees import is_below, pure_degrees, pure_table, whole_pure
from pureladders.table.tables import Table
from tests.checked import EDGES, LONG, LONGER, NESTED, NO_INTEGERS, SIXTY, CheckedTest, each_number
from tests.fractions_by_hand import below, by_place, number, pure

TEN = tuple(range(10))
# None of these is pure degrees.
NO_DEGREES = (
    None, True, False, 0, 1, LONGER, "", "0", "012", (), [], [0, 1], {}, {0: 1}, TEN, (0, 0), (1, 0), (0, 2, 1), (-1,),
    (-1, 0), (481,), (0, 481), (True,), (False,), (0, True), (False, 1), (0, None), (0, "1"), (0, (1,)), ((0, 1),), (LONG,),
    (0, LONGER), (-LONGER, 0), ([],), ({},), NESTED, EDGES, (EDGES,), Table({(0, 0): 1}), (0, Table({})), range(3))


def some_degrees(seed, count):
    chance = random.Random(seed)
    for many in range(1, 10):
        yield tuple(range(many))
        yield tuple(range(481 - many, 481))
        for most in (8, 20, 480):
            for _ in range(count):
                yield tuple(sorted(chance.sample(range(most + 1), many)))


# The factor of these has 67 digits.
GREAT = (0, 15, 74, 122, 152, 349, 373, 436, 478)
GIVEN = list(some_degrees(120, 6)) + [(0, 480), (480,), (0,), (0, 1, 2, 3, 476, 477, 478, 479, 480), GREAT]
WINDOW = pure_degrees(2, 4)


class DegreesTest(CheckedTest):
    def test_examples(self):
        self.assertEqual((module.MAX_STEP, module.MAX_PLACE), (8, 480))
        self.assertEqual(
            [str(pure_table((0, 2, 3))), str(whole_pure((0, 2, 3))[0]), whole_pure((0, 2, 3))[1], str(pure_table((4,))),
             is_below((0, 2, 3), (0, 2)), is_below((0, 2), (0, 2, 3))],
            ['0: 1/6 at 0; 1: 1/2 at 2; 2: 1/3 at 3', '0: 1 at 0; 1: 3 at 2; 2: 2 at 3', (6, 1), '0: 1 at 4', True, False])

    def test_pure_tables(self):
        for degrees in GIVEN:
            table = pure_table(degrees)
            self.assertIsInstance(table, Table)
            self.assertEqual(by_place(table), pure(degrees))
            self.assertEqual(list(table.entries), list(enumerate(degrees)))
            self.assertEqual(math.gcd(table.bottom, *table.entries.values()), 1)

    def test_rules(self):
        for degrees in GIVEN:
            fractions = pure(degrees)
            told = by_place(pure_table(degrees))
            self.assertEqual(told, fractions)
            rows = []
            for power in range(len(degrees) - 1):
                rows.append(tuple((-1) ** at * degree ** power for at, degree in enumerate(degrees)))
                self.assertEqual(sum(entry * told[place] for entry, place in zip(rows[-1], enumerate(degrees))), 0)
            # As many rules as members but one: so all tables that fulfil them are multiples of one.
            self.assertEqual(rank_of(tuple(rows)), len(degrees) - 1)

    def test_whole_tables(self):
        great = 0
        for degrees in GIVEN:
            whole, factor = whole_pure(degrees)
            self.assertIsInstance(whole, Table)
            self.assertEqual(whole.bottom, 1)
            self.assertEqual(math.gcd(*whole.entries.values()), 1)
            self.assertTrue(all(entry > 0 for entry in whole.entries.values()))
            self.assertTrue(type(factor) is tuple and len(factor) == 2 and factor[0] > 0 and factor[1] > 0)
            self.assertEqual(math.gcd(*factor), 1)
            self.assertEqual(by_place(whole), {place: told * number(factor) for place, told in pure(degrees).items()})
            great = max(great, factor[0], *whole.entries.values())
        self.assertGreater(great, LONG)

    def test_integers_of_more_than_sixty_digits(self):
        whole, factor = whole_pure(GREAT)
        self.assertGreater(factor[0], LONG)
        self.assertGreater(pure_table(GREAT).bottom, LONG)
        self.assertEqual(by_place(pure_table(GREAT)), pure(GREAT))
        self.assertEqual(by_place(whole), {place: told * factor[0] for place, told in pure(GREAT).items()})

    def test_ends(self):
        self.assertEqual([pure_table((480,)), whole_pure((480,))], [Table({(0, 480): 1}), (Table({(0, 480): 1}), (1, 1))])
        self.assertEqual(whole_pure((0, 480)), (Table({(0, 0): 1, (1, 480): 1}), (480, 1)))
        nine = pure_table(tuple(range(9)))
        self.assertEqual([nine.at(8, 8), nine.at(4, 4), nine.end], [(1, 40320), (1, 576), 8])

    def test_wrong_degrees(self):
        for value in NO_DEGREES:
            self.raises(InvalidDegrees, pure_table, value)
            self.raises(InvalidDegrees, whole_pure, value)
            self.raises(InvalidDegrees, is_below, (0, 1), value)
            self.raises(InvalidDegrees, is_below, value, value)
            self.assertIs(is_below(value, (480,)), False)
            self.assertIs(is_below(value, (0,)), False)

    def test_which_are_below(self):
        for one, other in itertools.product(WINDOW, repeat=2):
            self.assertIs(is_below(one, other), below(one, other))
        for one, other in itertools.product(GIVEN, repeat=2):
            self.assertIs(is_below(one, other), below(one, other))
        self.assertEqual(
            [is_below((0, 1, 2), (5,)), is_below((5,), (0, 1)), is_below((0, 480), (0, 479)), is_below((0, 479), (0, 480)),
             is_below((1, 2), (0, 3)), is_below((0,), (0,))], [True, False, False, True, False, True])

    def test_an_order(self):
        """[12.3]: on all pure degrees of a window."""
        few = pure_degrees(2, 3)
        above = {one: [other for other in few if is_below(one, other)] for one in few}
        for one in few:
            self.assertIn(one, above[one])
            for other in above[one]:
                self.assertTrue(one == other or one not in above[other])
                self.assertTrue(set(above[other]) <= set(above[one]))

    def test_all_windows(self):
        for last in range(4):
            for most in range(6):
                sets = [chosen for many in range(1, last + 2) for chosen in itertools.combinations(range(most + 1), many)]
                self.assertEqual(pure_degrees(last, most), tuple(sorted(sets)))
        self.assertEqual([pure_degrees(0, 0), pure_degrees(3, 0), len(pure_degrees(3, 5))], [((0,),), ((0,),), 56])

    def test_wrong_windows(self):
        self.refuses(pure_degrees, (3, 5), (
            (0, each_number(NO_INTEGERS + (-1, 4))), (1, each_number(NO_INTEGERS + (-1, 6)))))
        self.raises(InvalidNumber(4), pure_degrees, 4, 6)
        self.raises(InvalidNumber(SIXTY), pure_degrees, 0, SIXTY)

if __name__ == "__main__":
    unittest.main()
