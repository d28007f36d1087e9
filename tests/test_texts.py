"""[18.1], [18.2]: texts of lots, families, tables and chains."""

import math
import random
import re
import unittest

from pureladders.errors import InvalidOperation, ParseError
from pureladders.family.families import Family
from pureladders.lot.lots import Lot
from pureladders.part.parts import table_of
from pureladders.pure.chains import taking_off
from pureladders.rung.ladders import taylor
from pureladders.table.tables import Table
from pureladders.text.texts import read, write
from tests.chance import some_lots
from tests.checked import EDGES, LONG, LONGER, NESTED, NO_OBJECTS, RING, SIXTY, SQUARES, CheckedTest
from tests.fractions_by_hand import pair, some_chains, some_tables
from tests.test_chains import LONG_CHAINS, LONG_WAY, NO_CHAINS
from tests.test_families import HALF, some_families

INTEGER = re.compile(r"-?(0|[1-9][0-9]{0,59})")
ONE = ((0, 1), (1, 1))
# These have the form of a chain, but are none.
FORMS = (
    (ONE, ONE), (((0, 2), (1, 1)), ONE), (((0,), (1, 1)), ONE), (ONE, ((1, 2, 3), (1, 1))), (((0, 3), (1, 1)), ((1, 2), (1, 1))),
    (ONE, ((0, 2), (1, 1)), ((0, 2), (1, 1))), (ONE, ((0, 2), (1, 1)), ONE))


def integers(line):
    """The integers of a line; None if it has not just these, with single blanks between them."""
    words = line.split(" ")
    if not all(INTEGER.fullmatch(word) and word != "-0" for word in words):
        return None
    return tuple(map(int, words))


def wrong_lot(n, rows, row):
    if row is None or len(row) != n or min(row) < 0 or max(row) > 8 or len(rows) == 24:
        return True
    return bool(rows) and row <= rows[-1] or any(all(a <= b for a, b in zip(one, row)) for one in rows)


def wrong_family(n, rows, row):
    if row is None or list(row) != sorted(set(row)) or not set(row) <= set(range(n)):
        return True
    return bool(rows) and row <= rows[-1] or any(set(one) <= set(row) or set(row) <= set(one) for one in rows)


def wrong_table(_, rows, row):
    if row is None or len(row) != 3 or not 0 <= row[0] <= 8 or not 0 <= row[1] <= 480 or row[2] == 0:
        return True
    return bool(rows) and row[:2] <= rows[-1][:2]


def wrong_chain(_, rows, row):
    if row is None or len(row) < 3 or len(row) > 11 or row[0] < 1 or row[1] < 1 or math.gcd(row[0], row[1]) != 1:
        return True
    degrees = row[2:]
    return list(degrees) != sorted(set(degrees)) or degrees[0] < 0 or degrees[-1] > 480 or len(rows) == 1000


KINDS = {"lot": (wrong_lot, 8), "family": (wrong_family, 8), "table": (wrong_table, SIXTY), "chain": (wrong_chain, None)}


def first_wrong(text):
    """The index of the first wrong line, line by line; None if there is none."""
    lines = text.split("\n")
    match = re.fullmatch(r"(lot|family|table) ([1-9][0-9]{0,59})|(chain)", lines[0])
    if not match:
        return 0
    word = match[1] or match[3]
    wrong, most = KINDS[word]
    number = int(match[2] or 0)
    if most is not None and number > most:
        return 0
    rows = []
    for at, line in enumerate(lines[1:], start=1):
        row = () if word == "family" and line == "" else integers(line)
        if wrong(number, rows, row):
            return at
        rows.append(row)
    if word == "chain" and not rows:
        return 0
    if word == "table" and math.gcd(number, *[row[2] for row in rows]) > 1:
        return len(rows)
    return None


def some_values():
    yield from some_lots(220, 40)
    for corners, sets in some_families(221, 40):
        yield Family(corners, sets)
    yield from some_tables(222, 40, last=8, most=20, least=-5)
    yield from [pairs for pairs in some_chains(223, 40) if pairs]


VALUES = list(some_values()) + list(FORMS) + [
    EDGES, SQUARES, RING, HALF, Lot(3, ()), Lot(8, ()), Lot(3, ((0, 0, 0),)), Family(3, ()), Family(3, ((),)), Table({}),
    Table({(8, 480): -SIXTY}, SIXTY - 1), Lot(8, ((8,) * 8,)), Family(8, (tuple(range(8)),)), ((tuple(range(9)), (SIXTY, SIXTY - 1)),)]


class TextsTest(CheckedTest):
    def test_examples(self):
        self.assertEqual(
            [write(SQUARES), write(Family(3, ((0, 1), (2,)))), read("lot 2\n0 3\n1 1\n2 0") == SQUARES, read("lot 3") == Lot(3, ())],
            ['lot 2\n0 3\n1 1\n2 0', 'family 3\n0 1\n2', True, True])
        self.raises(ParseError(2), read, "lot 2\n1 1\n0 3")
        self.raises(ParseError(2), read, "lot 2\n1 1\n2 1")

    def test_texts(self):
        for value, text in (
                (Lot(3, ()), "lot 3"), (Lot(2, ((0, 0),)), "lot 2\n0 0"), (Lot(1, ((8,),)), "lot 1\n8"),
                (Family(3, ()), "family 3"), (Family(3, ((),)), "family 3\n"), (Family(2, ((0,), (1,))), "family 2\n0\n1"),
                (Table({}), "table 1"), (Table({(0, 0): 1}), "table 1\n0 0 1"),
                (Table({(8, 480): -3, (0, 0): 2}, 6), "table 6\n0 0 2\n8 480 -3"),
                (Table({(0, 10): 2, (0, 9): 4}, -6), "table 3\n0 9 -2\n0 10 -1"),
                (((((4,), (1, 2)),)), "chain\n1 2 4"), ((((0, 2), (3, 1)), ((0, 3), (1, 7))), "chain\n3 1 0 2\n1 7 0 3"),
                (taking_off(table_of(SQUARES))[1], "chain\n3 1 0 2 3\n2 1 0 2 4\n3 1 0 3 4"),
                (HALF, "family 6\n0 1 2\n0 1 5\n0 2 3\n0 3 4\n0 4 5\n1 2 4\n1 3 4\n1 3 5\n2 3 5\n2 4 5")):
            self.assertEqual(write(value), text)
            self.assertEqual(read(text), value)

    def test_written_and_read(self):
        """[18.2]."""
        for value in VALUES:
            text = write(value)
            self.assertIs(type(text), str)
            self.assertIsNone(first_wrong(text))
            found = read(text)
            self.assertIs(type(found), type(value))
            self.assertEqual(found, value)
            self.assertEqual(write(found), text)
            self.assertTrue(not text.endswith("\n") or value.members == ((),))

    def check_text(self, text):
        """Check a text, whatever it is, against the rules for its lines; whether it is read."""
        at = first_wrong(text)
        if at is None:
            self.assertEqual(write(read(text)), text)
        else:
            self.raises(ParseError(at), read, text)
        return at

    def test_changed_texts(self):
        chance = random.Random(224)
        spots = set()
        for value in VALUES:
            text = write(value)
            for _ in range(60):
                spots.add((text.split(" ")[0].split("\n")[0], self.check_text(changed_text(chance, text))))
        for word in KINDS:
            self.assertTrue({(word, at) for at in (None, 0, 1, 2, 3)} <= spots, word)

    def test_wrong_heads(self):
        for text in (
                "", " ", "\n", "lot", "lot ", "lot 0", "lot 9", "lot -1", "lot -0", "lot 02", "lot  2", "lot 2 ", " lot 2", "Lot 2",
                "LOT 2", "lots 2", "lot 2 2", "lot two", "lot\t2", "lot2", "lot +2", "lot 2.0", "lot None", "lot 1" + "0" * 60,
                "family", "family 0", "family 9", "family -1", "family 01", "table", "table 0", "table -1", "table 01", "table -0",
                f"table {LONG}", "chain 1", "chain ", " chain", "chains", "Chain", "chain", "ladder 2", "desk 2", "2", "0 1",
                "(x1^2)", "0: 1 at 0", "\nlot 2"):
            self.raises(ParseError(0), read, text)
            # Whatever stands behind the first wrong line.
            if text != "chain":
                self.raises(ParseError(0), read, text + "\n0 0\nnothing")

    def test_wrong_lines(self):
        for text, at in (
                ("lot 2\n", 1), ("lot 2\n0", 1), ("lot 2\n0 1 2", 1), ("lot 2\n0 9", 1), ("lot 2\n-1 1", 1), ("lot 2\n0  1", 1),
                ("lot 2\n0 1 ", 1), ("lot 2\n 0 1", 1), ("lot 2\n0 01", 1), ("lot 2\n0 -0", 1), ("lot 2\n0 a", 1), ("lot 2\n0\t1", 1),
                ("lot 2\n0 3\n", 2), ("lot 2\n0 3\n0 3", 2), ("lot 2\n1 1\n0 3", 2), ("lot 2\n0 3\n1 3", 2), ("lot 2\n0 0\n1 1", 2),
                ("lot 2\n0 3\n1 1\n1 2", 3), ("lot 2\n0 9\n1", 1), ("lot 2\n0 1\n1 0\n", 3), ("lot 1\n0\n0\nx", 2),
                ("lot 2\n0 " + "1" * 61, 1), ("lot 2\n+0 1", 1), ("lot 2\n0,1", 1), ("lot 2\n\n0 1", 1),
                ("family 3\n0 3", 1), ("family 3\n-1", 1), ("family 3\n1 0", 1), ("family 3\n0 0", 1), ("family 3\n ", 1),
                ("family 3\n00", 1), ("family 3\n0 1\n", 2), ("family 3\n0 1\n0 1", 2), ("family 3\n0 1\n1", 2),
                ("family 3\n0 1 2\n0 2", 2), ("family 3\n0\n0 1", 2), ("family 3\n\n0", 2), ("family 3\n\n", 2),
                ("family 3\n0 1\n0", 2), ("family 3\n1\n0 2", 2), ("family 4\n0 1\n2\n2 3", 3), ("family 3\n0 1 2 3", 1),
                ("table 1\n", 1), ("table 1\n0 0", 1), ("table 1\n0 0 1 1", 1), ("table 1\n9 0 1", 1), ("table 1\n0 481 1", 1),
                ("table 1\n-1 0 1", 1), ("table 1\n0 -1 1", 1), ("table 1\n0 0 0", 1), ("table 1\n0 0 -0", 1), ("table 1\n0 0 01", 1),
                (f"table 1\n0 0 {LONG}", 1), (f"table 1\n0 0 -{LONG}", 1), ("table 1\n0 0 1/2", 1), ("table 1\n0 0 1\n0 0 2", 2),
                ("table 1\n0 1 1\n0 0 1", 2), ("table 1\n1 0 1\n0 5 1", 2), ("table 1\n0 0 2\n", 2), ("table 2", 0), ("table 2\n0 0 2", 1),
                ("table 6\n0 0 2\n1 1 4", 2), ("table 6\n0 0 2\n1 1 4\n2 2 0", 3), ("table 6\n0 0 2\n1 1 x\n2 2 4", 2),
                ("table 2\n0 0 2\n0 0 4", 2), (f"table {SIXTY}", 0), (f"table {SIXTY}\n0 0 {SIXTY}", 1),
                ("chain", 0), ("chain\n", 1), ("chain\n1 1", 1), ("chain\n1", 1), ("chain\n0 1 0", 1), ("chain\n-1 1 0", 1),
                ("chain\n1 -1 0", 1), ("chain\n1 0 0", 1), ("chain\n2 2 0", 1), ("chain\n2 4 0", 1), ("chain\n1 1 1 0", 1),
                ("chain\n1 1 0 0", 1), ("chain\n1 1 481", 1), ("chain\n1 1 -1", 1), ("chain\n1 1 0 1 2 3 4 5 6 7 8 9", 1),
                (f"chain\n{LONG} 1 0", 1), (f"chain\n1 {LONG} 0", 1), ("chain\n1/1 0", 1), ("chain\n1 1 0\n", 2), ("chain\n1 1 0\n1 1 0 0", 2),
                ("chain\n1 1 0\n\n1 1 1", 2), ("chain\n01 1 0", 1)):
            self.assertEqual(first_wrong(text), at, text)
            self.raises(ParseError(at), read, text)

    def test_long_integers(self):
        self.assertEqual(read(f"table {SIXTY}\n0 0 1\n1 1 -{SIXTY}"), Table({(0, 0): 1, (1, 1): -SIXTY}, SIXTY))
        self.assertEqual(read(f"chain\n{SIXTY} {SIXTY - 1} 0"), (((0,), (SIXTY, SIXTY - 1)),))
        for table in (Table({(0, 0): SIXTY}) + Table({(0, 0): 1}), Table({(0, 0): 1, (1, 1): SIXTY}).times(-10)):
            self.assertEqual(write(table), "table 1\n" + "\n".join(f"{i} {j} {told}" for (i, j), told in table.entries.items()))
        self.raises(ParseError(1), read, write(Table({(0, 0): SIXTY}) + Table({(0, 0): 1})))
        self.raises(ParseError(2), read, write(Table({(0, 0): 1, (1, 1): SIXTY}).times(-10)))
        self.raises(ParseError(0), read, write(Table({(0, 0): 1}, SIXTY).times(1, SIXTY)))

    def test_great_exponents(self):
        great = SQUARES.power(4)
        self.assertEqual(write(great), "lot 2\n" + "\n".join(f"{a} {b}" for a, b in great.members))
        self.raises(ParseError(1), read, write(great))
        self.raises(ParseError(2), read, write(Lot(2, ((5, 0), (0, 2))) * Lot(2, ((5, 0), (0, 1)))).replace("5 1\n", ""))

    def test_how_many_members(self):
        rows = [(a, b, 6 - a - b) for a in range(7) for b in range(7 - a)]
        lines = [" ".join(map(str, row)) for row in rows]
        self.assertEqual(read("\n".join(["lot 3"] + lines[:24])), Lot(3, tuple(rows[:24])))
        self.raises(ParseError(25), read, "\n".join(["lot 3"] + lines[:25]))
        self.raises(ParseError(25), read, "\n".join(["lot 3"] + lines))
        self.raises(ParseError(24), read, "\n".join(["lot 3"] + lines[:23] + lines[:2]))

    def test_how_many_pairs(self):
        pairs = tuple((degrees, pair(at % 9 + 1)) for at, degrees in enumerate(LONG_WAY + LONG_WAY[:40]))
        self.assertEqual(len(pairs), 1000)
        text = write(pairs)
        self.assertEqual(read(text), pairs)
        self.raises(ParseError(1001), read, text + "\n1 1 0")
        self.raises(InvalidOperation, write, pairs + (ONE,))
        self.raises(InvalidOperation, write, ())

    def test_what_is_not_written(self):
        chains = tuple(value for value in NO_CHAINS if value not in FORMS)
        self.assertEqual(len(chains), len(NO_CHAINS) - len(FORMS))
        for value in NO_OBJECTS + LONG_CHAINS + (LONGER, NESTED, taylor(SQUARES), "lot 2", ((),), (EDGES,), [ONE], {ONE: 1}):
            self.raises(InvalidOperation, write, value)
        for value in chains:
            if not isinstance(value, (Lot, Table)):
                self.raises(InvalidOperation, write, value)

    def test_what_is_no_string(self):
        for value in (None, True, False, 0, LONGER, (), ("lot 2",), ["lot 2"], {}, {"lot": 2}, NESTED, EDGES, HALF, Table({})):
            self.raises(ParseError(None), read, value)


def changed_text(chance, text):
    """A text that is near another one: some letters, words or lines are others."""
    lines = text.split("\n")
    for _ in range(chance.choice((1, 1, 1, 2))):
        at = chance.randrange(len(lines))
        words = lines[at].split(" ")
        spot = chance.randrange(len(words))
        kind = chance.randrange(9)
        if kind == 0:
            lines.insert(at, lines[chance.randrange(len(lines))])
        elif kind == 1 and len(lines) > 1:
            lines.pop(at)
        elif kind == 2:
            other = chance.randrange(len(lines))
            lines[at], lines[other] = lines[other], lines[at]
        elif kind == 3:
            words[spot] = str(chance.choice((0, 1, 2, 3, 8, 9, -1, 480, 481)))
            lines[at] = " ".join(words)
        elif kind == 4:
            words.insert(spot, str(chance.randrange(9)))
            lines[at] = " ".join(words)
        elif kind == 5:
            lines[at] = " ".join(words[:spot] + words[spot + 1:])
        elif kind == 6:
            cut = chance.randint(0, len(lines[at]))
            lines[at] = lines[at][:cut] + chance.choice(" \t0-x+1") + lines[at][cut:]
        elif kind == 7:
            lines.append(chance.choice(("", " ", "0", "1 1 1", "0 0 1")))
        else:
            words[spot] = words[spot] + "0" * chance.choice((1, 60))
            lines[at] = " ".join(words)
    return "\n".join(lines)


if __name__ == "__main__":
    unittest.main()
