"""[13.1] to [13.5], [0.15]: weights that stand against a table."""

import random
import unittest
from fractions import Fraction

from pureladders.errors import InvalidNumber, InvalidOperation, InvalidTable, Refused, TooMany
from pureladders.lot.lots import Lot
from pureladders.part.parts import table_of
from pureladders.pure.chains import taking_off
from pureladders.pure.degrees import pure_degrees, pure_table
from pureladders.pure.weights import is_weights, pure_sums, weighed, weights_against
from pureladders.table.tables import Table
from tests.checked import (
    EDGES, LONG, LONGER, NESTED, NO_INTEGERS, RING, SIXTY, SQUARES, CheckedTest, each, each_number)
from tests.fractions_by_hand import as_table, by_place, number, pair, pure, some_chains, some_tables
from tests.chance import some_lots
from tests.test_tables import NO_PLACES, NO_TABLES

GAP = Table({(0, 0): 1, (2, 3): 1})
FALL = {(1, 0): 1, (1, 1): 1, (1, 2): 1, (1, 3): 1, (2, 0): -1, (2, 1): -1, (2, 2): -1, (2, 3): -1}
NOTHING = Table({})
OUTSIDE = Table({(0, 0): 1, (3, 5): 1, (4, 4): 1})
WINDOWS = [(last, most) for last in range(4) for most in range(6)]
PURES = {window: [pure(degrees) for degrees in pure_degrees(*window)] for window in WINDOWS}
# None of these is a dict from places to integers.
NO_WEIGHTS = (
    None, True, 0, 1, LONGER, "", "{}", (), ((0, 0), 1), [], [((0, 0), 1)], NESTED, EDGES, GAP,
    {(0, 0): None}, {(0, 0): True}, {(0, 0): "1"}, {(0, 0): (1, 1)}, {(0, 0): 1, (1, 1): False}, {(0, 0): []},
    ) + tuple({place: 1} for place in NO_PLACES) + tuple({(0, 2): 1, place: 0} for place in NO_PLACES)


def holds(table, window):
    return all(step <= window[0] and degree <= window[1] for step, degree in table.entries)


def total(weights, fractions):
    return sum((weights.get(place, 0) * told for place, told in fractions.items()), Fraction(0))


def against(weights, table, window):
    """Whether the weights stand against a table, asked for all pure tables of the window."""
    inside = all(step <= window[0] and degree <= window[1] for step, degree in weights)
    return inside and all(total(weights, one) >= 0 for one in PURES[window]) and total(weights, by_place(table)) < 0


class WeightsTest(CheckedTest):
    def test_examples(self):
        self.assertEqual(
            [is_weights(GAP, 2, 3, FALL), is_weights(GAP, 2, 3, {(0, 0): -1}),
             is_weights(table_of(SQUARES), 2, 4, {(1, 2): -1}), weighed(FALL, GAP), weighed({(0, 0): 2}, Table({(0, 0): 1}, 4))],
            [True, False, False, (-1, 1), (1, 2)])
        self.assertEqual(
            ([weights_against(table_of(lot), 2, 4) for lot in (EDGES, SQUARES, RING)],
             is_weights(GAP, 2, 3, weights_against(GAP, 2, 3))), ([None, None, None], True))
        self.assertEqual(
            pure_sums({(0, 0): 1, (1, 1): -1}, 1, 2),
            {(0,): (1, 1), (0, 1): (0, 1), (0, 2): (1, 2), (1,): (0, 1), (1, 2): (0, 1), (2,): (0, 1)})
        self.raises(Refused(("window",)), weights_against, GAP, 2, 2)

    def check_against(self, table, window):
        """Check what is told of weights against the table; the word of a stuck table, or None."""
        found = taking_off(table)
        weights = weights_against(table, *window)
        if found[0] == "chain":
            self.assertIsNone(weights)
            return None
        self.assertIsInstance(weights, dict)
        self.assertEqual(list(weights), sorted(weights))
        self.assertLessEqual(len(weights), 1000)
        self.assertTrue(all(type(weight) is int and abs(weight) < LONG for weight in weights.values()))
        self.assertTrue(against(weights, table, window))
        self.assertIs(is_weights(table, *window, weights), True)
        return found[2][0]

    def test_weights_by_chance(self):
        words = {}
        corners = [Table({(step, degree): 1}) for step in range(4) for degree in range(6)]
        given = corners + list(some_tables(150, 60)) + list(some_tables(151, 30, least=-1)) + list(some_tables(152, 40, last=2, most=3))
        for table in given + [NOTHING, GAP, OUTSIDE - Table({(4, 4): 1})]:
            for window in WINDOWS:
                if holds(table, window):
                    words.setdefault(self.check_against(table, window), set()).add(window)
        self.assertEqual(set(words), {None, "sign", "gap", "rise"})
        self.assertEqual(words[None], set(WINDOWS))
        self.assertEqual(words["gap"], {window for window in WINDOWS if window[0] > 0})
        self.assertTrue(words["rise"] >= {(last, most) for last in (1, 2, 3) for most in (2, 3, 4, 5)})

    def test_the_least_windows(self):
        for table, window in ((Table({(0, 0): -1}), (0, 0)), (Table({(1, 0): 1}), (1, 0)), (Table({(3, 5): 1}), (3, 5)),
                              (Table({(0, 0): 1, (1, 0): 1}), (1, 0)), (Table({(0, 5): 1, (1, 5): 1}), (1, 5))):
            for other in WINDOWS:
                if holds(table, other):
                    self.assertIsNotNone(self.check_against(table, other))
                else:
                    self.raises(Refused(("window",)), weights_against, table, *other)
            self.assertTrue(holds(table, window))

    def test_tables_near_chains(self):
        """Tables of chains, and those with one place less or more, of which just a part are stuck."""
        words = set()
        for pairs in some_chains(153, 60, longest=5, last=3, most=2):
            table = as_table({})
            for degrees, told in pairs:
                table = table + pure_table(degrees).times(*told)
            for window in WINDOWS:
                if holds(table, window):
                    self.assertIsNone(weights_against(table, *window))
            if holds(table, (3, 5)):
                for place, told in by_place(table).items():
                    for share in (Fraction(1, 2), Fraction(3, 2), Fraction(99, 100), 0):
                        changed = by_place(table)
                        changed[place] = told * share
                        words.add(self.check_against(as_table(changed), (3, 5)))
        self.assertEqual(words, {None, "gap", "rise"})

    def test_great_tables(self):
        for extra in ({(0, 0): SIXTY, (2, 3): 1}, {(0, 0): 1, (1, 1): SIXTY, (1, 2): SIXTY - 1, (2, 2): SIXTY},
                      {(0, 1): SIXTY, (1, 2): SIXTY, (2, 3): SIXTY - 1}, {(3, 4): -SIXTY}):
            table = Table(extra, 7).times(SIXTY).times(SIXTY - 2)
            for window in ((3, 4), (3, 5)):
                self.assertTrue(against(weights_against(table, *window), table, window))
        whole = pure_table((0, 1, 3, 5)).times(SIXTY).times(SIXTY) + pure_table((0, 2, 3)).times(1, SIXTY)
        self.assertIsNone(weights_against(whole, 3, 5))
        lesser = whole - Table({(3, 5): 1}, SIXTY)
        self.assertTrue(against(weights_against(lesser, 3, 5), lesser, (3, 5)))

    def test_tables_of_lots(self):
        for lot in list(some_lots(154, 40, letters=3, most=3)) + [Lot(2, ((0, 0),)), Lot(3, ())]:
            table = table_of(lot)
            for window in WINDOWS:
                if holds(table, window):
                    self.assertIsNone(weights_against(table, *window))
                    self.assertIs(is_weights(table, *window, {(0, 0): -1}), False)

    def test_which_values_are_weights(self):
        for value in NO_WEIGHTS:
            self.assertIs(is_weights(GAP, 2, 3, value), False)
            self.assertIs(is_weights(NOTHING, 0, 0, value), False)
        for place in ((3, 0), (2, 4), (8, 480), (0, 4)):
            for weight in (0, 1, -1):
                self.assertIs(is_weights(GAP, 2, 3, {**FALL, place: weight}), False)
        wide = {**FALL, (1, 4): 1, (2, 4): -1, **{(3, degree): 1 for degree in range(5)}}
        self.assertIs(is_weights(GAP, 3, 4, wide), True)
        self.assertIs(is_weights(GAP, 3, 4, {**wide, (3, 4): 0}), False)
        self.assertIs(is_weights(GAP, 2, 3, {**FALL, (0, 0): 0}), True)
        self.assertIs(is_weights(GAP, 2, 3, {place: FALL[place] for place in reversed(list(FALL))}), True)
        for times in (2, SIXTY, LONG, LONGER):
            self.assertIs(is_weights(GAP, 2, 3, {place: FALL[place] * times for place in FALL}), True)
            self.assertIs(is_weights(GAP, 2, 3, {place: -FALL[place] * times for place in FALL}), False)
        self.assertIs(is_weights(GAP, 2, 3, {**FALL, (2, 3): True}), False)
        self.assertIs(is_weights(GAP, 2, 3, {**FALL, (True, 1): 1}), True)
        self.assertIs(is_weights(GAP, 2, 3, {place: FALL[place] for place in FALL if place != (1, 1)} | {(True, 1): 1}), False)
        self.assertIs(is_weights(GAP, 2, 3, {}), False)
        # The table has just the sum 0, or a pure table one below 0.
        self.assertIs(is_weights(GAP, 2, 3, {**FALL, (0, 0): 1}), False)
        self.assertIs(is_weights(GAP, 2, 3, {**FALL, (1, 2): 0}), False)

    def test_weights_by_look(self):
        chance = random.Random(155)
        found = set()
        for table in some_tables(156, 40, last=2, most=3):
            for _ in range(60):
                weights = {(chance.randint(0, 2), chance.randint(0, 3)): chance.randint(-1, 3) for _ in range(9)}
                right = against(weights, table, (2, 3))
                self.assertIs(is_weights(table, 2, 3, weights), right)
                found.add(right)
        self.assertEqual(found, {True, False})

    def test_errors_against(self):
        def wrong(call, *others):
            self.refuses(lambda table, last, most: call(table, last, most, *others), (NOTHING, 3, 5), (
                (0, each(InvalidTable, NO_TABLES)), (1, each_number(NO_INTEGERS + (-1, 4))),
                (2, each_number(NO_INTEGERS + (-1, 6)))), (
                ((OUTSIDE, 3, 5), Refused(("window",))), ((GAP, 1, 3), Refused(("window",))),
                ((GAP, 2, 2), Refused(("window",))), ((-GAP, 0, 0), Refused(("window",)))))
        wrong(weights_against)
        wrong(is_weights, None)
        wrong(is_weights, FALL)
        self.assertIsNone(weights_against(NOTHING, 0, 0))
        self.assertIs(is_weights(NOTHING, 0, 0, {(0, 0): 1}), False)
        self.assertIs(is_weights(Table({(0, 0): -1}), 0, 0, {(0, 0): 1}), True)

    def test_weighed_sums(self):
        chance = random.Random(157)
        for table in some_tables(158, 80, last=8, most=20, least=-5):
            weights = {place: chance.randint(-9, 9) for place in list(table.entries)[::2] + [(8, 480), (0, 0)]}
            self.assertEqual(weighed(weights, table), pair(total(weights, by_place(table))))
        self.assertEqual([weighed({}, GAP), weighed(FALL, NOTHING)], [(0, 1), (0, 1)])
        self.assertEqual(weighed({(8, 480): -3}, Table({(8, 480): 4}, 6)), (-2, 1))

    def test_long_weighed_sums(self):
        table = Table({(0, 0): SIXTY, (1, 1): 1})
        self.assertEqual(weighed({(0, 0): 1}, table), (SIXTY, 1))
        self.assertEqual(weighed({(0, 0): -1}, table), (-SIXTY, 1))
        self.raises(TooMany(60), weighed, {(0, 0): 1, (1, 1): 1}, table)
        self.raises(TooMany(60), weighed, {(0, 0): SIXTY}, table)
        small = Table({(0, 0): 1}, 10 ** 30).times(1, 10 ** 30)
        self.raises(TooMany(60), weighed, {(0, 0): 1}, small)
        self.assertEqual(weighed({(0, 0): 10}, small), (1, 10 ** 59))
        self.refuses(weighed, (FALL, GAP), (
            (0, each(InvalidOperation, NO_WEIGHTS + tuple({(0, 0): value} for value in NO_INTEGERS))),
            (1, each(InvalidTable, NO_TABLES))), ((({(0, 0): SIXTY}, table), TooMany(60)),))

    def test_pure_sums(self):
        chance = random.Random(159)
        for window in WINDOWS:
            for _ in range(4):
                weights = {(chance.randint(0, window[0]), chance.randint(0, window[1])): chance.randint(-7, 7)
                           for _ in range(chance.randint(0, 8))}
                found = pure_sums(weights, *window)
                self.assertEqual(list(found), list(pure_degrees(*window)))
                self.assertEqual(found, {degrees: pair(total(weights, pure(degrees))) for degrees in found})

    def test_long_pure_sums(self):
        self.assertEqual(pure_sums({(0, 0): SIXTY}, 0, 0), {(0,): (SIXTY, 1)})
        # The place (1, 1) of (0, 1) has the fraction 1, as (0, 0) has: together one digit more.
        self.raises(TooMany(60), pure_sums, {(0, 0): SIXTY, (1, 1): 1}, 1, 1)
        self.assertEqual(pure_sums({(0, 0): SIXTY, (1, 1): -1}, 1, 1)[0, 1], (SIXTY - 1, 1))
        self.refuses(lambda last, most, weights: pure_sums(weights, last, most), (1, 1, {(0, 0): 1}), (
            (0, each_number(NO_INTEGERS + (-1, 4))), (1, each_number(NO_INTEGERS + (-1, 6))),
            (2, each(InvalidOperation, NO_WEIGHTS + tuple({(0, 0): value} for value in NO_INTEGERS) + (
                {(2, 0): 1}, {(0, 2): 1}, {(0, 0): 1, (8, 480): 0})))), (
            ((1, 1, {(0, 0): SIXTY, (1, 1): 1}), TooMany(60)),))
        self.raises(InvalidNumber(4), pure_sums, None, 4, 6)

    def test_weights_of_each_window(self):
        """[13.4]: one place alone, and the steps from one on with signs."""
        for window in WINDOWS:
            last, most = window
            for place in [(step, degree) for step in range(last + 1) for degree in range(most + 1)]:
                self.assertTrue(all(told[0] >= 0 for told in pure_sums({place: 1}, *window).values()))
            for step in range(1, last + 1):
                weights = {(k, j): (-1) ** (k - step) for k in range(step, last + 1) for j in range(most + 1)}
                for degrees, told in pure_sums(weights, *window).items():
                    self.assertGreaterEqual(told[0], 0)
                    if len(degrees) > step:
                        below = sum((-1) ** (step - 1 - k) * pure(degrees)[k, degrees[k]] for k in range(step))
                        self.assertEqual(number(told), below)

    def test_what_is_not_true(self):
        """[13.5]."""
        # Weights against a sum that stand against one of both alone.
        both = GAP + pure_table((0, 1, 2))
        weights = weights_against(both, 2, 3)
        self.assertTrue(is_weights(both, 2, 3, weights) and not is_weights(pure_table((0, 1, 2)), 2, 3, weights))
        # Weights on a window that are none on a greater one.
        self.assertEqual([is_weights(GAP, last, most, FALL) for last, most in ((2, 3), (2, 4), (3, 4))], [True, True, False])
        # A table whose fractions are all at least 0.
        self.assertIsNotNone(weights_against(GAP, 2, 3))
        # The only places with weights below 0 are not always one.
        self.assertGreater(len([place for place in FALL if FALL[place] < 0]), 1)


if __name__ == "__main__":
    unittest.main()
