"""[12.4] to [12.8]: chains, their tables, and taking off."""

import itertools
import random
import unittest
from fractions import Fraction

from pureladders.errors import InvalidOperation, InvalidTable, TooMany
from pureladders.lot.lots import Lot
from pureladders.part.parts import table_of
from pureladders.pure import chains
from pureladders.pure.chains import is_chain, table_of_chain, taking_off
from pureladders.pure.degrees import pure_degrees, pure_table, whole_pure
from pureladders.table.tables import Table
from tests.chance import some_lots
from tests.checked import EDGES, LONG, LONGER, NESTED, NO_OBJECTS, RING, SIXTY, SQUARES, CheckedTest
from tests.fractions_by_hand import as_table, below, by_place, chain_sum, number, pair, pure, some_chains, some_tables, take_off
from tests.test_tables import NO_TABLES

NOTHING = Table({})
# Degrees that go from (0, 1) over (0, 480) to (479, 480), and then on with one member: 960 in all.
LONG_WAY = [(0, top) for top in range(1, 481)] + [(low, 480) for low in range(1, 480)] + [(480,)]
ONE = ((0, 1), (1, 1))
# None of these is a chain.
NO_CHAINS = (
    None, True, 0, 1, LONGER, "", "chain", [], {}, NESTED, EDGES, NOTHING, ONE, [ONE], (list(ONE),), (ONE, None), (None,),
    (((0, 1),),), (((0, 1), (1, 1), (1, 1)),), ((ONE[0], 1),), ((ONE[0], [1, 1]),), ((ONE[0], (1,)),), ((ONE[0], (1, 1, 1)),),
    ((ONE[0], (2, 2)),), ((ONE[0], (0, 1)),), ((ONE[0], (-1, 1)),), ((ONE[0], (1, -1)),), ((ONE[0], (-1, -1)),),
    ((ONE[0], (1, 0)),), ((ONE[0], (True, 1)),), ((ONE[0], (1, True)),), ((ONE[0], (None, 1)),), ((ONE[0], ("1", 1)),),
    (([0, 1], (1, 1)),), (((), (1, 1)),), (((1, 0), (1, 1)),), (((0, 481), (1, 1)),), (((0, True), (1, 1)),),
    ((tuple(range(10)), (1, 1)),), ((0, (1, 1)),), (ONE, ONE), (((0, 2), (1, 1)), ONE), (((0,), (1, 1)), ONE),
    (ONE, ((1, 2, 3), (1, 1))), (((0, 3), (1, 1)), ((1, 2), (1, 1))), (ONE, ((0, 2), (1, 1)), ((0, 2), (1, 1))),
    (ONE, ((0, 2), (1, 1)), ONE), {ONE: 1}, (((0, 1), (1, 1), ()),), ((ONE, ONE),), (EDGES,), ((EDGES, (1, 1)),))
# Chains, but integers of more than sixty digits are not passed.
LONG_CHAINS = (((ONE[0], (LONG, 1)),), ((ONE[0], (1, LONG)),), ((ONE[0], (LONGER, LONGER + 1)),))


class ChainsTest(CheckedTest):
    def test_examples(self):
        self.assertEqual(chains.MAX_CHAIN, 500)
        self.assertEqual(
            taking_off(table_of(SQUARES)),
            ('chain', (((0, 2, 3), (3, 1)), ((0, 2, 4), (2, 1)), ((0, 3, 4), (3, 1)))))
        self.assertEqual(
            [taking_off(table_of(EDGES)), taking_off(Table({})), is_chain(table_of(RING), (((0, 2, 4), (8, 1)),)),
             is_chain(table_of(RING), (((0, 2, 4), (4, 1)), ((0, 2, 4), (4, 1))))],
            [('chain', (((0, 2, 3), (6, 1)),)), ('chain', ()), True, False])
        self.assertEqual(
            [taking_off(Table({(0, 0): 1, (2, 3): 1})), taking_off(Table({(0, 0): 1, (1, 2): -1})),
             taking_off(Table({(0, 0): 1, (1, 1): 1, (1, 2): 1, (2, 2): 1}))],
            [('stuck', (), ('gap', 1)), ('stuck', (), ('sign', 1, 2)), ('stuck', (((0, 1, 2), (1, 1)),), ('rise', 1))])
        self.raises(InvalidOperation, table_of_chain, (((0, 2), (1, 1)), ((0, 1), (1, 1))))

    def test_chains_by_chance(self):
        lengths = set()
        for seed, last, most in ((130, 4, 9), (131, 8, 30), (132, 1, 480), (133, 0, 12)):
            for pairs in some_chains(seed, 60, last=last, most=most):
                table = table_of_chain(pairs)
                self.assertIsInstance(table, Table)
                self.assertEqual(by_place(table), chain_sum(pairs))
                self.assertEqual(list(table.entries), sorted(table.entries))
                self.assertEqual(taking_off(table), ("chain", pairs))
                self.assertIs(is_chain(table, pairs), True)
                self.near_chains(table, pairs)
                lengths.add(len(pairs))
        self.assertTrue(lengths >= set(range(9)))

    def near_chains(self, table, pairs):
        """Other chains and values near a chain are not that of its table."""
        for at, (degrees, told) in enumerate(pairs):
            top, bottom = told
            for other in ((degrees, pair(Fraction(top, bottom) + 1)), (degrees, (2 * top, 2 * bottom)), (degrees, list(told)),
                          (degrees, (-top, -bottom)), (list(degrees), told), (degrees, (float(top), bottom))):
                self.assertIs(is_chain(table, pairs[:at] + (other,) + pairs[at + 1:]), False)
            self.assertIs(is_chain(table, pairs[:at] + pairs[at + 1:]), False)
            halves = (degrees, pair(Fraction(top, 2 * bottom)))
            self.assertIs(is_chain(table, pairs[:at] + (halves, halves) + pairs[at + 1:]), False)
        self.assertIs(is_chain(table, list(pairs)), False)
        if len(pairs) > 1:
            self.assertIs(is_chain(table, pairs[::-1]), False)

    def test_taking_off_by_hand(self):
        words = {}
        for table in list(some_tables(134, 500)) + list(some_tables(135, 150, least=-1)) + list(some_tables(136, 200, many=3)):
            found = taking_off(table)
            self.assertEqual(found, take_off(by_place(table)))
            word = "chain" if found[0] == "chain" else found[2][0]
            words.setdefault((word, bool(found[1])), []).append(found)
            self.assertIs(is_chain(table, found[1]), found[0] == "chain")
            self.assertTrue(all(one != two and below(one, two) for (one, _), (two, _) in zip(found[1], found[1][1:])))
        # Each word at the first turn, and but for the signs at later ones.
        for word in (("sign", False), ("gap", False), ("gap", True), ("rise", False), ("rise", True), ("chain", True)):
            self.assertIn(word, words)
        self.assertNotIn(("sign", True), words)

    def test_the_first_word_that_applies(self):
        self.assertEqual(taking_off(Table({(0, 3): 1, (1, 3): 1, (3, 3): 1, (3, 2): -1})), ("stuck", (), ("sign", 3, 2)))
        self.assertEqual(taking_off(Table({(1, 5): -1, (1, 4): 1, (2, 0): -1})), ("stuck", (), ("sign", 1, 5)))
        self.assertEqual(taking_off(Table({(0, 3): 1, (1, 3): 1, (3, 3): 1})), ("stuck", (), ("gap", 2)))
        self.assertEqual(taking_off(Table({(2, 3): 1, (4, 3): 1})), ("stuck", (), ("gap", 0)))
        self.assertEqual(taking_off(Table({(0, 1): 1, (1, 1): 1, (2, 0): 1})), ("stuck", (), ("rise", 0)))
        self.assertEqual(taking_off(Table({(0, 1): 1, (1, 2): 1, (2, 2): 1})), ("stuck", (), ("rise", 1)))
        self.assertEqual(taking_off(Table({(0, 480): 1, (1, 480): 1, (8, 0): 1})), ("stuck", (), ("gap", 2)))
        self.assertEqual(taking_off(Table({(8, 480): 7})), ("stuck", (), ("gap", 0)))
        self.assertEqual(taking_off(Table({(0, 480): 7}, 3)), ("chain", (((480,), (7, 3)),)))

    def test_stuck_at_later_turns(self):
        later = {}
        for pairs in some_chains(137, 120):
            table = table_of_chain(pairs)
            for extra in ({(1, 13): 1}, {(6, 13): 2}, {(3, 12): 3}, {(2, 3): 1}):
                found = taking_off(table + Table(extra))
                self.assertEqual(found, take_off(by_place(table + Table(extra))))
                if found[0] == "stuck":
                    later.setdefault(found[2][0], set()).add(len(found[1]))
        self.assertTrue(later["gap"] >= {0, 1, 2, 3} and later["rise"] >= {0, 1, 3, 4})

    def test_each_turn_makes_a_fraction_0(self):
        """[12.6]: a chain has at most as many pairs as its table has places."""
        for table in some_tables(138, 300):
            found = taking_off(table)
            rest, places = by_place(table), set(table.entries)
            for degrees, told in found[1]:
                rest = {place: rest.get(place, 0) - number(told) * pure(degrees).get(place, 0) for place in places}
                left = {place for place in places if rest[place]}
                self.assertTrue(all(value >= 0 for value in rest.values()))
                self.assertTrue(left < places)
                places = left
            self.assertEqual(found[0] == "chain", not places)

    def test_great_integers(self):
        self.assertEqual(taking_off(Table({(0, 0): SIXTY})), ("chain", (((0,), (SIXTY, 1)),)))
        self.assertEqual(taking_off(Table({(0, 0): 1}, SIXTY)), ("chain", (((0,), (1, SIXTY)),)))
        great = Table({(0, 0): SIXTY}) + Table({(0, 0): 1})
        small = Table({(0, 0): 1}, 10 ** 30).times(1, 10 ** 30)
        for table in (great, small, great + Table({(2, 2): 1}), great + Table({(1, 0): 1, (0, 1): 1})):
            found = take_off(by_place(table))
            if found[1]:
                self.raises(TooMany(60), taking_off, table)
            else:
                self.assertEqual(taking_off(table), found)
        # Stuck behind a pair that is too long, and ahead of one.
        stuck = Table({(0, 0): 1, (1, 1): 1, (0, 2): 1, (1, 2): 1})
        self.assertEqual(taking_off(stuck), ("stuck", (((0, 1), (1, 1)),), ("rise", 0)))
        self.raises(TooMany(60), taking_off, stuck + great + Table({(1, 1): SIXTY}) + Table({(1, 1): 1}))
        self.assertEqual(taking_off(great.times(-1)), ("stuck", (), ("sign", 0, 0)))
        self.assertEqual(taking_off(great + Table({(2, 0): 1})), ("stuck", (), ("gap", 1)))
        whole = Table({(0, 0): SIXTY, (1, 7): SIXTY})
        self.raises(TooMany(60), taking_off, whole)
        self.assertEqual(taking_off(whole.times(1, 7)), ("chain", (((0, 7), (SIXTY, 1)),)))

    def test_great_chains(self):
        fractions = ((SIXTY, SIXTY - 1), (1, SIXTY), (SIXTY, 1), (SIXTY - 2, SIXTY - 4))
        pairs = tuple(zip(((0, 2, 3, 9), (0, 2, 4, 9), (1, 3, 4), (1, 5)), fractions))
        table = table_of_chain(pairs)
        self.assertEqual(by_place(table), chain_sum(pairs))
        self.assertEqual(taking_off(table), ("chain", pairs))
        self.assertIs(is_chain(table, pairs), True)
        self.assertIs(is_chain(table, pairs[:3] + ((pairs[3][0], (SIXTY - 2, SIXTY - 6)),)), False)
        for long in LONG_CHAINS:
            self.raises(InvalidOperation, table_of_chain, long)
            ((degrees, told),) = long
            table = as_table({place: share * number(told) for place, share in pure(degrees).items()})
            self.assertIs(is_chain(table, long), True)
            self.assertIs(is_chain(pure_table(degrees), long), False)
            self.raises(TooMany(60), taking_off, table)

    def test_how_many_pairs(self):
        self.assertEqual(table_of_chain(()), NOTHING)
        pairs = tuple((degrees, (at % 7 + 1, at % 5 + 1)) for at, degrees in enumerate(LONG_WAY))
        pairs = tuple((degrees, pair(number(told))) for degrees, told in pairs)
        self.assertEqual(by_place(table_of_chain(pairs[:500])), chain_sum(pairs[:500]))
        self.assertEqual(by_place(table_of_chain(pairs[450:950])), chain_sum(pairs[450:950]))
        self.raises(InvalidOperation, table_of_chain, pairs[:501])
        self.raises(InvalidOperation, table_of_chain, pairs)
        self.assertEqual(taking_off(table_of_chain(pairs[:500])), ("chain", pairs[:500]))
        # More pairs can be judged and told, but not passed.
        table = as_table(chain_sum(pairs))
        self.assertIs(is_chain(table, pairs), True)
        self.assertEqual(taking_off(table), ("chain", pairs))

    def test_which_values_are_chains(self):
        for value in NO_CHAINS:
            self.raises(InvalidOperation, table_of_chain, value)
            for table in (NOTHING, pure_table((0, 1)), table_of(SQUARES)):
                self.assertIs(is_chain(table, value), False)
        self.assertIs(is_chain(NOTHING, ()), True)
        self.assertIs(is_chain(pure_table((0, 1)), ()), False)
        self.assertIs(is_chain(pure_table((0, 1)), (ONE,)), True)
        self.assertIs(is_chain(NOTHING, (ONE,)), False)

    def test_wrong_tables(self):
        for value in NO_TABLES + NO_OBJECTS:
            self.raises(InvalidTable, taking_off, value)
            self.raises(InvalidTable, is_chain, value, None)
            self.raises(InvalidTable, is_chain, value, ())

    def test_tables_of_lots(self):
        """[12.7], [0.16]: over each field they end with 0, and their fractions add up to 1 as told."""
        for lot in list(some_lots(139, 60)) + [EDGES, SQUARES, RING, Lot(3, ()), Lot(8, (tuple(range(1, 9)),))]:
            if not lot.is_all:
                for prime in (0, 2, 3, 97):
                    word, pairs = taking_off(table_of(lot, prime))
                    self.assertEqual(word, "chain")
                    self.assertTrue(all(degrees[0] == 0 for degrees, _ in pairs))
                    self.assertEqual(chain_sum(pairs)[0, 0], 1)
                    total = Fraction(0)
                    for degrees, told in pairs:
                        share = number(told)
                        for degree in degrees[1:]:
                            share /= degree
                        total += share
                    self.assertEqual(total, 1)
        self.assertEqual(taking_off(table_of(Lot(2, ((0, 0),)))), ("chain", ()))

    def test_what_is_not_true(self):
        """[12.8]."""
        one, other = (((0, 1, 4), (1, 1)),), (((0, 2, 3), (1, 1)),)
        total = taking_off(table_of_chain(one) + table_of_chain(other))[1]
        self.assertNotIn((0, 1, 4), [degrees for degrees, _ in total])
        # Two sums of pure tables, of which just one is a chain.
        self.assertIs(is_chain(table_of_chain(one) + table_of_chain(other), total), True)
        self.assertEqual(chain_sum(total), chain_sum(one + other))
        fractions = [number(told) / whole_pure(degrees)[1][0] for degrees, told in taking_off(table_of(SQUARES))[1]]
        self.assertEqual(fractions[0], Fraction(1, 2))
        # Lots of three members have three at step 1: so the multiple of (0, 2, 5) is that of none.
        self.assertEqual(str(whole_pure((0, 2, 5))[0]), "0: 3 at 0; 1: 5 at 2; 2: 2 at 5")

    def test_what_sums_of_pure_tables_are(self):
        """[12.6]: a sum of multiples of pure tables is never stuck."""
        chance = random.Random(140)
        degrees = pure_degrees(3, 5)
        for _ in range(150):
            total = {}
            for chosen in chance.sample(degrees, chance.randint(1, 5)):
                times = Fraction(chance.randint(1, 9), chance.randint(1, 9))
                total = {place: total.get(place, 0) + times * pure(chosen).get(place, 0)
                         for place in itertools.chain(total, pure(chosen))}
            self.assertEqual(taking_off(as_table(total))[0], "chain")


if __name__ == "__main__":
    unittest.main()
