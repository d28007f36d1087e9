"""[5.1]: tables of fractions."""

import math
import random
import unittest
from fractions import Fraction

from pureladders.errors import InvalidNumber, InvalidTable, ParseError
from pureladders.table import tables
from pureladders.table.tables import Table
from tests.checked import EDGES, LONG, LONGER, NESTED, NO_INTEGERS, SIXTY, CheckedTest

HALF = Table({(0, 0): 2, (1, 2): 3, (1, 1): 0}, 4)
NOTHING = Table({})
NO_PLACES = (
    None, True, 0, LONGER, "", "00", (), (0,), (0, 0, 0), (-1, 0), (9, 0), (0, -1), (0, 481), (True, 0), (0, False),
    ("0", 0), (0, None), ((0,), 0), (LONGER, 0), (0, LONGER))
NO_TABLES = (None, True, 0, 1, LONGER, "0", (), (0, 0), [], {}, {(0, 0): 1}, NESTED, EDGES)


def fractions_of(table):
    return {place: Fraction(top, table.bottom) for place, top in table.entries.items()}


def some_tables(seed, count):
    chance = random.Random(seed)
    for _ in range(count):
        entries = {(chance.randint(0, 3), chance.randint(0, 4)): chance.randint(-6, 6)
                   for _ in range(chance.randint(0, 7))}
        yield Table(entries, chance.choice((-12, -1, 1, 2, 6, 35)))


def written(fractions):
    """The text of a dict from places to fractions, as [5.1] tells it."""
    steps = {}
    for step, degree in sorted(fractions):
        if fractions[step, degree]:
            steps.setdefault(step, []).append(f"{fractions[step, degree]} at {degree}")
    return "; ".join(f"{step}: {', '.join(parts)}" for step, parts in steps.items()) or "0"


class TablesTest(CheckedTest):
    def test_constants(self):
        self.assertEqual((tables.MAX_STEP, tables.MAX_PLACE), (8, 480))

    def test_examples(self):
        found = [str(HALF), HALF.entries, HALF.bottom, HALF.at(1, 2), HALF.at(1, 1), HALF.end, str(HALF + HALF),
                 str(HALF.times(4, 3)), HALF == Table.read("0: 1/2 at 0; 1: 3/4 at 2")]
        expected = ["0: 1/2 at 0; 1: 3/4 at 2", {(0, 0): 2, (1, 2): 3}, 4, (3, 4), (0, 1), 1,
                    "0: 1 at 0; 1: 3/2 at 2", "0: 2/3 at 0; 1: 1 at 2", True]
        self.assertEqual(found, expected)
        self.assertEqual([str(HALF - HALF), bool(HALF - HALF), (HALF - HALF).end], ["0", False, -1])

    def test_lowest_terms(self):
        table = Table({(2, 3): 6, (0, 0): -9, (1, 480): 0, (8, 480): 12}, -6)
        self.assertEqual((table.entries, table.bottom), ({(0, 0): 3, (2, 3): -2, (8, 480): -4}, 2))
        self.assertEqual(list(table.entries), [(0, 0), (2, 3), (8, 480)])
        self.assertEqual([table.at(0, 0), table.at(2, 3), table.at(8, 480), table.at(1, 480)],
                         [(3, 2), (-1, 1), (-2, 1), (0, 1)])
        for empty in (Table({}, 7), Table({(0, 0): 0}, -7), Table({(0, 0): 0, (8, 480): 0})):
            self.assertEqual((empty.entries, empty.bottom, empty.end, bool(empty), str(empty)), ({}, 1, -1, False, "0"))
            self.assertTrue(empty == NOTHING)
        self.assertEqual(Table({(0, 0): 5}).bottom, 1)
        self.assertEqual((Table({(3, 1): 1}).end, bool(Table({(3, 1): 1}))), (3, True))

    def test_nothing_is_shared(self):
        given = {(0, 0): 1, (1, 1): 0}
        table = Table(given)
        given[0, 0] = 7
        table.entries[0, 0] = 8
        table.entries.clear()
        self.assertEqual(table.entries, {(0, 0): 1})
        self.assertEqual(given, {(0, 0): 7, (1, 1): 0})
        for name in ("entries", "bottom", "end"):
            with self.assertRaises(AttributeError):
                setattr(table, name, 5)

    def test_sums_differences_opposites_and_multiples(self):
        for one, other in zip(some_tables(1, 150), some_tables(2, 150)):
            over, under = fractions_of(one), fractions_of(other)
            places = set(over) | set(under)
            results = (
                (one + other, {p: over.get(p, 0) + under.get(p, 0) for p in places}),
                (one - other, {p: over.get(p, 0) - under.get(p, 0) for p in places}),
                (-one, {p: -over[p] for p in over}),
                (one.times(-6, 35), {p: over[p] * Fraction(-6, 35) for p in over}),
                (one.times(4, -6), {p: over[p] * Fraction(-2, 3) for p in over}),
                (one.times(3), {p: over[p] * 3 for p in over}),
                (one.times(0, -5), {}))
            for table, expected in results:
                expected = {p: Fraction(expected[p]) for p in expected if expected[p]}
                self.assertEqual(fractions_of(table), expected)
                self.assertEqual(list(table.entries), sorted(table.entries))
                self.assertGreater(table.bottom, 0)
                self.assertEqual(math.gcd(table.bottom, *table.entries.values()), 1)
                self.assertEqual(str(table), written(expected))
                self.assertEqual(table.end, max((step for step, _ in expected), default=-1))
                self.assertIs(bool(table), bool(expected))
                for step, degree in places:
                    fraction = expected.get((step, degree), Fraction(0))
                    self.assertEqual(table.at(step, degree), (fraction.numerator, fraction.denominator))
            self.assertTrue(one + other == other + one and one - one == NOTHING and one + (-one) == NOTHING)

    def test_equality(self):
        self.assertTrue(Table({(0, 0): 2}, 4) == Table({(0, 0): -1, (1, 1): 0}, -2))
        self.assertFalse(Table({(0, 0): 2}, 4) != Table({(0, 0): 1}, 2))
        self.assertTrue(Table({(0, 0): 1}) != Table({(0, 0): 1}, 2))
        self.assertTrue(Table({(0, 0): 1}) != Table({(0, 1): 1}))
        for value in NO_TABLES:
            self.assertIs(HALF == value, False)
            self.assertIs(value == HALF, False)
            self.assertIs(NOTHING == value, False)
            self.assertIs(HALF != value, True)

    def test_operands_of_another_kind(self):
        for value in NO_TABLES:
            for call in (lambda: HALF + value, lambda: value + HALF, lambda: HALF - value, lambda: value - HALF):
                self.raises(TypeError, call)
        for call in (lambda: HALF * 2, lambda: iter(HALF), lambda: (0, 0) in HALF, lambda: len(HALF),
                     lambda: HALF < HALF):
            self.raises(TypeError, call)

    def test_wrong_entries(self):
        for place in NO_PLACES:
            self.raises(InvalidTable, Table, {place: 1})
            self.raises(InvalidTable, Table, {place: 0}, None)
            self.raises(InvalidTable, Table, {(5, 5): 1, place: 1})
        for value in NO_INTEGERS:
            self.raises(InvalidTable, Table, {(0, 0): value})
        for value in (None, True, 1, LONGER, "", (), [], ((0, 0), 1), [((0, 0), 1)], HALF, EDGES):
            self.raises(InvalidTable, Table, value)
            self.raises(InvalidTable, Table, value, 0)

    def test_wrong_bottoms(self):
        for value in NO_INTEGERS + (0,):
            self.raises(InvalidNumber(value), Table, {(0, 0): 1}, value)
            self.raises(InvalidNumber(value), HALF.times, 1, value)
            self.raises(InvalidNumber("top"), HALF.times, "top", value)
        for value in NO_INTEGERS:
            self.raises(InvalidNumber(value), HALF.times, value)

    def test_wrong_places(self):
        for value in NO_INTEGERS + (-1, 9):
            self.raises(InvalidNumber(value), HALF.at, value, 0)
            self.raises(InvalidNumber(value), HALF.at, value, 481)
        for value in NO_INTEGERS + (-1, 481):
            self.raises(InvalidNumber(value), HALF.at, 8, value)
        self.assertEqual(HALF.at(8, 480), (0, 1))

    def test_integers_of_any_length_inside(self):
        table = Table({(0, 0): SIXTY, (1, 1): -SIXTY}, SIXTY - 1)
        great = table.times(SIXTY, SIXTY - 1).times(SIXTY)
        self.assertEqual(great.at(0, 0), (SIXTY ** 3, (SIXTY - 1) ** 2))
        self.assertEqual(great.at(1, 1), (-SIXTY ** 3, (SIXTY - 1) ** 2))
        self.assertTrue(great.times(SIXTY - 1, SIXTY).times(SIXTY - 1, SIXTY).times(1, SIXTY) == Table(
            {(0, 0): 1, (1, 1): -1}))
        self.assertTrue((great - great) == NOTHING)

    def test_texts_are_read_back(self):
        for table in list(some_tables(3, 80)) + [HALF, NOTHING, Table({(8, 480): -SIXTY, (0, 0): 1}, SIXTY - 1)]:
            self.assertTrue(Table.read(str(table)) == table)
        long = Table.read(f"0: 1/{SIXTY} at 0, 1/{SIXTY - 1} at 1; 8: -{SIXTY}/17 at 480")
        self.assertEqual(long.bottom, SIXTY * (SIXTY - 1) * 17)
        self.assertEqual([long.at(0, 0), long.at(0, 1), long.at(8, 480)], [(1, SIXTY), (1, SIXTY - 1), (-SIXTY, 17)])
        self.assertTrue(Table.read("0") == NOTHING)

    def test_integers_of_more_than_sixty_digits(self):
        great = Table({(0, 0): SIXTY}) + Table({(0, 0): 1})
        self.assertEqual(str(great), f"0: {LONG} at 0")
        for text in (str(great), str(-great), f"0: 1/{LONG} at 0", f"0: 1 at {LONG}", f"{LONG}: 1 at 0",
                     "0: " + "9" * 3900 + " at 0", "0: " + "0" * 60 + "1 at 0"):
            self.raises(ParseError(0), Table.read, text)

    def test_texts_near_a_text(self):
        near = (
            "", " ", "-0", "00", "0 ", "+0", "0:", "0: ", ": ", "0: 0 at 0", "0: 1", "0: at 0", "0: 1 at", "0: 1 at ",
            "0 : 1 at 0", "0:1 at 0", "0:  1 at 0", "0: 1  at 0", "0: 1 at  0", "0: 1at 0", "0: 1 At 0", "0: 1 at 0 ",
            " 0: 1 at 0", "0: 1 at 0;", "0: 1 at 0; ", "0: 1 at 0,", "0: 1 at 0, ", "0: 1 at 0\n", "0: 1 at 1, 1 at 0",
            "0: 1 at 0, 1 at 0", "0: 1 at 0,1 at 1", "0: 1 at 0;1: 1 at 1", "1: 1 at 1; 0: 1 at 0",
            "0: 1 at 0; 0: 1 at 1", "0: 2/4 at 0", "0: 1/1 at 0", "0: 1/-2 at 0", "0: -1/-2 at 0", "0: 1/0 at 0",
            "0: 0/1 at 0", "0: -0 at 0", "0: +1 at 0", "0: 01 at 0", "0: 1 at 00", "00: 1 at 0", "0: 1/02 at 0",
            "0: 1/ at 0", "0: /2 at 0", "0: 1/2/3 at 0", "0: 1 /2 at 0", "0: 1/ 2 at 0", "0: - 1 at 0", "0: --1 at 0",
            "0: 1.0 at 0", "0: a at 0", "a: 1 at 0", "0: 1 at a", "-1: 1 at 0", "9: 1 at 0", "0: 1 at -1",
            "0: 1 at 481", "8: 1 at 481", "0: 1 at 0; 1", "0: 1 at 0, 2", "0: True at 0", "0: 1 at 0 at 0",
            "0: 1 at 0: 1 at 1", "table 1\n0 0 1", "0: 1e3 at 0", "0: 1_0 at 0", "0: 1 at 0; 1: ", "0; 1: 1 at 1")
        for text in near:
            self.raises(ParseError(0), Table.read, text)
        for value in (None, True, 0, 1, LONGER, (), ("0",), [], {}, {(0, 0): 1}, HALF, EDGES):
            self.raises(ParseError(0), Table.read, value)


if __name__ == "__main__":
    unittest.main()
