"""[7.1] to [7.7]: ladders, their strands, faults, units and cuts."""

import itertools
import random
import unittest

from pureladders.base.ranks import rank_of
from pureladders.errors import InvalidLadder, InvalidLot, InvalidNumber, InvalidOperation, InvalidProduct, TooMany
from pureladders.lot.lots import Lot
from pureladders.part.members import table_by_members
from pureladders.part.parts import fine_table, table_of
from pureladders.rung import ladders
from pureladders.rung.ladders import (
    Ladder, cut, cut_down, is_ladder, is_least, ladder_fault, least_ladder, taylor, told_lot, unit_of)
from pureladders.table.tables import Table
from tests.chance import some_lots
from tests.checked import (
    EDGES, FIELDS, LONG, LONGER, NESTED, NO_FIELDS, NO_INTEGERS, NO_LOTS, NO_OBJECTS, NO_PRODUCTS, RING, SIXTY, SQUARES,
    CheckedTest, each, each_number)

EMPTY, ALL = Lot(2, ()), Lot(2, ((0, 0),))
TOP = ((0, 0),)
TAYLOR = taylor(SQUARES)
SMALL = cut(TAYLOR, (3, 0, 1))
LINE = Lot(1, ((1,),))
DOUBLE = Ladder(1, (((0,),), ((1,),)), (((2,),),))
# A ladder with a step without rungs between two others, and one with rungs of degree 0.
GAP = Ladder(2, (TOP, (), ((1, 0), (1, 1))), ((), ((), ())))
FLAT = Ladder(2, (TOP, TOP + TOP, TOP), (((1,), (2,)), ((-2, 1),)))


LOTS = list(some_lots(7, 30, least=2)) + [EMPTY, ALL, EDGES, SQUARES, RING, LINE, Lot(1, ())]


def divides(one, other):
    return all(a <= b for a, b in zip(one, other))


def common(letters, rungs):
    """All common multiples of sets of rungs, ascending."""
    found = {(0,) * letters}
    for rung in [rung for step in rungs for rung in step]:
        found |= {tuple(map(max, one, rung)) for one in found}
    return sorted(found)


def strand_of(ladder, product):
    """The rungs and maps of a strand."""
    kept = [[at for at, rung in enumerate(step) if divides(rung, product)] for step in ladder.rungs]
    rungs = [tuple(step[at] for at in chosen) for step, chosen in zip(ladder.rungs, kept)]
    maps = [tuple(tuple(rows[at][low] for low in kept[k]) for at in kept[k + 1]) for k, rows in enumerate(ladder.maps)]
    while len(rungs) > 1 and not rungs[-1]:
        rungs.pop()
        maps.pop()
    return tuple(rungs), tuple(maps)


def faults_of(lot, ladder, prime):
    """The first fault, by whole products of maps and by ranks of strands at all common multiples."""
    rungs, maps = ladder.rungs, ladder.maps

    def is_zero(number):
        return number % prime == 0 if prime else number == 0

    for step in range(2, len(rungs)):
        for upper in range(len(rungs[step])):
            for lower in range(len(rungs[step - 2])):
                total = sum(maps[step - 1][upper][k] * maps[step - 2][k][lower] for k in range(len(rungs[step - 1])))
                if not is_zero(total):
                    return ("product", step, upper, lower)
    told = [rung for rung, row in zip(rungs[1], maps[0]) if not is_zero(row[0])] if maps else []
    least = sorted({one for one in told if not any(other != one and divides(other, one) for other in told)})
    if tuple(least) != lot.members:
        return ("lot",)
    for product in common(ladder.letters, rungs):
        steps, rows = strand_of(ladder, product)
        ranks = [rank_of(one, prime) for one in rows] + [0]
        for at in range(len(rows)):
            if ranks[at] + ranks[at + 1] != len(steps[at + 1]):
                return ("hole", product, at + 1)
    return None


def units_of(ladder, prime):
    """All units, ascending."""
    found = []
    for step in range(2, len(ladder.rungs)):
        for upper, row in enumerate(ladder.maps[step - 1]):
            for lower, entry in enumerate(row):
                if ladder.rungs[step][upper] == ladder.rungs[step - 1][lower] and (entry % prime if prime else entry):
                    found.append((step, upper, lower))
    return found


def cut_by_lists(ladder, unit, prime):
    """The rungs and maps behind a cut, in lists, one change behind the other."""
    step, upper, lower = unit
    rungs = [list(one) for one in ladder.rungs]
    maps = [[list(row) for row in rows] for rows in ladder.maps]
    here = maps[step - 1]
    for at, row in enumerate(here):
        if at != upper:
            entry = row[lower]
            for k in range(len(row)):
                row[k] = here[upper][lower] * row[k] - entry * here[upper][k]
    del here[upper]
    for row in here:
        del row[lower]
    del maps[step - 2][lower]
    if step < len(maps):
        for row in maps[step]:
            del row[upper]
    del rungs[step][upper], rungs[step - 1][lower]
    while len(rungs) > 1 and not rungs[-1]:
        rungs.pop()
        maps.pop()
    maps = [[[entry % prime if prime else entry for entry in row] for row in rows] for rows in maps]
    return tuple(map(tuple, rungs)), tuple(tuple(map(tuple, rows)) for rows in maps)


def bent(ladder, chance):
    """A ladder like this one, with an integer that is another one, if it has integers."""
    maps = [[list(row) for row in rows] for rows in ladder.maps]
    places = [(k, at, low) for k, rows in enumerate(maps) for at, row in enumerate(rows) for low in range(len(row))
              if divides(ladder.rungs[k][low], ladder.rungs[k + 1][at])]
    if places:
        k, at, low = chance.choice(places)
        maps[k][at][low] = chance.choice((0, 2, 3, -1, 5))
    return Ladder(ladder.letters, ladder.rungs, tuple(tuple(map(tuple, rows)) for rows in maps))


class ObjectsTest(CheckedTest):
    def test_constants(self):
        self.assertEqual(
            (ladders.MAX_STEP, ladders.MAX_RUNGS, ladders.MAX_TAYLOR, ladders.MAX_STRANDS), (8, 70, 7, 200))

    def test_examples(self):
        self.assertEqual(
            [str(TAYLOR), TAYLOR.rungs[2], TAYLOR.maps[1], TAYLOR.maps[2], unit_of(TAYLOR)],
            ['ladder of 1, 3, 3, 1 rungs', ((1, 3), (2, 3), (2, 1)), ((-1, 1, 0), (-1, 0, 1), (0, -1, 1)),
             ((1, -1, 1),), (3, 0, 1)])
        self.assertEqual(
            [SMALL.rungs[2], SMALL.maps[1], SMALL == cut_down(TAYLOR), is_least(SMALL), is_ladder(SQUARES, SMALL),
             str(SMALL.strand((1, 3)))],
            [((1, 3), (2, 1)), ((-1, 1, 0), (0, -1, 1)), True, True, True, 'ladder of 1, 2, 1 rungs'])
        self.assertEqual(
            [told_lot(DOUBLE) == LINE, is_ladder(LINE, DOUBLE), ladder_fault(LINE, DOUBLE, 2),
             ladder_fault(LINE, DOUBLE, 3)],
            [True, True, ('lot',), None])
        self.assertEqual(ladder_fault(SQUARES, Ladder(2, TAYLOR.rungs[:2], TAYLOR.maps[:1])), ('hole', (1, 3), 1))
        wrong = Ladder(2, SMALL.rungs, (SMALL.maps[0], ((1, 1, 0), (0, -1, 1))))
        self.assertEqual(ladder_fault(SQUARES, wrong), ('product', 2, 0, 0))
        self.raises(InvalidOperation, cut, SMALL, (2, 0, 0))

    def test_properties(self):
        self.assertEqual([SMALL.letters, SMALL.rungs[0], SMALL.maps[0]], [2, TOP, ((1,), (1,), (1,))])
        self.assertEqual([len(SMALL), len(TAYLOR), len(GAP), len(Ladder(3, (((0, 0, 0),),), ()))], [6, 8, 3, 1])
        self.assertEqual(TAYLOR.table, Table({(0, 0): 1, (1, 2): 2, (1, 3): 1, (2, 3): 1, (2, 4): 1, (2, 5): 1, (3, 5): 1}))
        self.assertEqual([SMALL.table, GAP.table], [table_of(SQUARES), Table({(0, 0): 1, (2, 1): 1, (2, 2): 1})])
        self.assertEqual([str(GAP), str(FLAT), str(Ladder(1, (((0,),),), ()))],
                         ['ladder of 1, 0, 2 rungs', 'ladder of 1, 2, 1 rungs', 'ladder of 1 rungs'])
        self.assertEqual(FLAT.table, Table({(0, 0): 1, (1, 0): 2, (2, 0): 1}))
        for name in ("letters", "rungs", "maps", "table"):
            with self.assertRaises(AttributeError):
                setattr(SMALL, name, None)

    def test_equal_ladders(self):
        self.assertEqual(Ladder(2, SMALL.rungs, SMALL.maps), SMALL)
        others = [TAYLOR, DOUBLE, GAP, Ladder(2, SMALL.rungs, (SMALL.maps[0], ((-1, 1, 0), (0, -1, 2)))),
                  Ladder(2, (TOP, ((0, 3), (1, 1), (2, 1)), ((1, 3), (2, 1))), SMALL.maps),
                  Ladder(2, SMALL.rungs[:2], SMALL.maps[:1]), EDGES, Table({})]
        for other in others + list(NO_OBJECTS):
            self.assertIs(SMALL == other, False)
            self.assertIs(SMALL != other, True)
        self.assertNotEqual(Ladder(1, (((0,),),), ()), Ladder(2, (TOP,), ()))
        self.assertIs(SMALL != Ladder(2, SMALL.rungs, SMALL.maps), False)

    def test_no_iteration(self):
        for call in (iter, list, lambda one: 1 in one):
            with self.assertRaises(TypeError):
                call(SMALL)

    def test_bounds_of_steps_and_rungs(self):
        nine = Ladder(1, (((0,),),) + (((1,),),) * 8, (((0,),),) * 8)
        self.assertEqual([len(nine), nine.table.end, nine.table.at(8, 1)], [9, 8, (1, 1)])
        many = Ladder(1, (((0,),), ((60,),) * 70, ((60,),) * 70), (((SIXTY,),) * 70, ((-SIXTY,) * 70,) * 70))
        self.assertEqual([len(many), many.table.at(1, 60)], [141, (70, 1)])
        self.assertEqual(Ladder(8, ((((0,) * 8),), ((60,) * 8,)), (((1,),),)).table.at(1, 480), (1, 1))

    def test_wrong_rungs_and_maps(self):
        step = ((1, 0), (1, 1))
        rungs = NO_OBJECTS + (
            EDGES, SMALL, ((),), (((1, 0),),), (((0, 1),),), (TOP + TOP,), (((0, 0, 0),),), (((0,),),), ((TOP,),),
            ([(0, 0)],), [TOP], (TOP, [(1, 0)]), (TOP, ([1, 0],)), (TOP, ((1, 61),)), (TOP, ((1, -1),)),
            (TOP, ((1, True),)), (((0, False),),), (TOP, ((1,),)), (TOP, ((1, 0, 0),)), (TOP, ()), (TOP, step, ()),
            (TOP, (), ()), (TOP,) + (step,) * 9, (TOP, ((1, 0),) * 71), (TOP, 5), (TOP, None), (TOP, ((1, None),)),
            (TOP, EDGES), (TOP, (EDGES,)), NESTED)
        maps = NO_OBJECTS + (
            EDGES, SMALL, (((1,), (1,)),) * 2, [((1,), (1,))], ([(1,), (1,)],), (([1], (1,)),), (((1,),),),
            (((1,),) * 3,), (((1,), (1, 1)),), (((1,), ()),), (((1,), (True,)),), (((1,), (None,)),), (((1,), ("1",)),),
            (((1,), (LONG,)),), (((1,), (-LONG,)),), (((LONGER,), (1,)),), (((1,), 1),), ((),), (EDGES,), NESTED)
        self.refuses(Ladder, (2, (TOP, step), (((1,), (1,)),)), [
            (0, each_number(NO_INTEGERS + (0, 9))), (1, each(InvalidLadder, rungs)), (2, each(InvalidLadder, maps))])
        for value in NO_RUNGS:
            self.raises(InvalidLadder, Ladder, 2, value, zero_maps(value))
        self.raises(InvalidLadder, Ladder, 2, (TOP,), ((),))
        self.raises(InvalidLadder, Ladder, 2, (TOP, (), step), ((),))
        self.raises(InvalidLadder, Ladder, 2, (TOP, (), step), (((1,),), ((), ())))

    def test_integers_where_rungs_do_not_divide(self):
        rungs = (TOP, ((2, 0), (0, 1)), ((2, 1), (1, 2), (2, 0)))
        Ladder(2, rungs, (((1,), (1,)), ((1, 1), (0, 1), (1, 0))))
        for entry in (1, -1, SIXTY):
            self.raises(InvalidLadder, Ladder, 2, rungs, (((1,), (1,)), ((1, 1), (entry, 1), (1, 0))))
            self.raises(InvalidLadder, Ladder, 2, rungs, (((1,), (1,)), ((1, 1), (0, 1), (1, entry))))

    def test_two_hundred_common_multiples(self):
        rungs = [(k, 0) for k in range(1, 10)] + [(0, k) for k in range(1, 20)]
        good = Ladder(2, (TOP, tuple(rungs)), (((1,),) * 28,))
        self.assertEqual(len(common(2, good.rungs)), 200)
        more = (TOP, tuple(rungs) + ((10, 20),))
        self.assertEqual(len(common(2, more)), 201)
        self.raises(TooMany(200), Ladder, 2, more, (((1,),) * 29,))
        self.raises(InvalidLadder, Ladder, 2, more, (((1,),) * 28,))
        spread = (TOP, tuple(rungs), ((10, 20),))
        self.raises(TooMany(200), Ladder, 2, spread, (((1,),) * 28, ((0,) * 28,)))
        self.assertEqual(len(Ladder(2, (TOP, tuple(rungs) + ((9, 19),)), (((1,),) * 29,))), 30)


class StrandsTest(CheckedTest):
    def test_strands(self):
        for lot in LOTS:
            for ladder in (taylor(lot), least_ladder(lot), least_ladder(lot, 2)):
                for product in common(ladder.letters, ladder.rungs) + [(60,) * lot.letters, (1,) * lot.letters]:
                    found = ladder.strand(product)
                    self.assertIs(type(found), Ladder)
                    self.assertEqual((found.letters, found.rungs, found.maps), (lot.letters,) + strand_of(ladder, product))
                    self.assertEqual(Ladder(found.letters, found.rungs, found.maps), found)
                    self.assertEqual(found.strand(product), found)
                self.assertEqual(ladder.strand((60,) * lot.letters), ladder)

    def test_last_steps_without_rungs_leave(self):
        self.assertEqual([str(GAP.strand((0, 5))), str(GAP.strand((1, 0))), GAP.strand((1, 0)).maps],
                         ['ladder of 1 rungs', 'ladder of 1, 0, 1 rungs', ((), ((),))])
        self.assertEqual(GAP.strand((0, 5)).maps, ())
        self.assertEqual(FLAT.strand((0, 0)), FLAT)

    def test_wrong_products(self):
        for value in NO_PRODUCTS + ((1,), (1, 1, 1)):
            self.raises(InvalidProduct, SMALL.strand, value)


class FaultsTest(CheckedTest):
    def test_right_ladders(self):
        for lot in LOTS:
            for prime in FIELDS:
                for ladder in (taylor(lot), least_ladder(lot, prime), cut_down(taylor(lot), prime)):
                    self.assertIsNone(ladder_fault(lot, ladder, prime))
                    self.assertIs(is_ladder(lot, ladder, prime), True)
                    self.assertEqual(told_lot(ladder, prime), lot)
            self.assertIsNone(ladder_fault(lot, least_ladder(lot)))
            self.assertIs(is_ladder(lot, least_ladder(lot)), True)

    def test_bent_ladders(self):
        chance = random.Random(77)
        kinds = {}
        for _ in range(12):
            for lot in LOTS:
                start = chance.choice((taylor(lot), least_ladder(lot), least_ladder(lot, 3)))
                ladder = bent(start, chance)
                if chance.random() < 0.3 and len(ladder.rungs) > 2:
                    ladder = Ladder(lot.letters, ladder.rungs[:-1], ladder.maps[:-1])
                for prime in (0, 2, 3):
                    fault = ladder_fault(lot, ladder, prime)
                    self.assertEqual(fault, faults_of(lot, ladder, prime))
                    self.assertIs(is_ladder(lot, ladder, prime), fault is None)
                    kind = fault and fault[0]
                    kinds[kind] = kinds.get(kind, 0) + 1
        self.assertEqual(set(kinds), {None, "product", "lot", "hole"})
        self.assertGreater(min(kinds.values()), 20)

    def test_first_faults(self):
        """Faults of several kinds in one ladder: products first, then the told lot, then holes."""
        maps = (SMALL.maps[0], ((1, 1, 0), (0, 1, 1)))
        both = Ladder(2, SMALL.rungs, maps)
        self.assertEqual(ladder_fault(EMPTY, both), ("product", 2, 0, 0))
        self.assertEqual(ladder_fault(EMPTY, both, 2), ("lot",))
        self.assertEqual(ladder_fault(SQUARES, both, 2), None)
        zero = Ladder(2, SMALL.rungs, (SMALL.maps[0], ((0, 0, 0), (0, 0, 0))))
        self.assertEqual(ladder_fault(SQUARES, zero), ("hole", (1, 3), 1))
        self.assertEqual(ladder_fault(EDGES.quotient((0, 1, 0, 0)), taylor(EDGES)), ("lot",))
        low = Ladder(2, SMALL.rungs, (SMALL.maps[0], ((-1, 1, 0), (0, 0, 0))))
        self.assertEqual(ladder_fault(SQUARES, low), ("hole", (2, 1), 1))
        second = Ladder(2, SMALL.rungs, (SMALL.maps[0], ((-1, 1, 0), (0, 1, 1))))
        self.assertEqual(ladder_fault(SQUARES, second), ("product", 2, 1, 0))
        high = Ladder(2, SMALL.rungs + (((2, 3),),), SMALL.maps + (((0, 0),),))
        self.assertEqual(ladder_fault(SQUARES, high), ("hole", (2, 3), 3))

    def test_late_products(self):
        maps = TAYLOR.maps[:2] + (((1, 1, 1),),)
        self.assertEqual(ladder_fault(SQUARES, Ladder(2, TAYLOR.rungs, maps)), ("product", 3, 0, 0))
        maps = TAYLOR.maps[:2] + (((1, -1, 0),),)
        self.assertEqual(ladder_fault(SQUARES, Ladder(2, TAYLOR.rungs, maps)), ("product", 3, 0, 1))
        maps = TAYLOR.maps[:2] + (((2, -2, 2),),)
        self.assertIsNone(ladder_fault(SQUARES, Ladder(2, TAYLOR.rungs, maps), 97))
        self.assertEqual(ladder_fault(SQUARES, Ladder(2, TAYLOR.rungs, maps), 2), ("hole", (2, 3), 2))

    def test_products_at_late_rungs(self):
        """More rungs two steps below than at the step below."""
        rungs = (((0,),), ((1,),) * 3, ((1,),), ((1,),) * 2)
        maps = (((0,),) * 3, ((0, 0, 1),), ((0,), (5,)))
        ladder = Ladder(1, rungs, maps)
        self.assertEqual(ladder_fault(Lot(1, ()), ladder), ("product", 3, 1, 2))
        self.assertEqual(ladder_fault(Lot(1, ()), ladder, 5), faults_of(Lot(1, ()), ladder, 5))

    def test_steps_without_rungs(self):
        self.assertEqual([ladder_fault(EMPTY, GAP), ladder_fault(SQUARES, GAP)], [("hole", (1, 0), 2), ("lot",)])
        self.assertEqual(ladder_fault(EMPTY, GAP, 2), faults_of(EMPTY, GAP, 2))
        bare = Ladder(2, (TOP,), ())
        self.assertEqual([ladder_fault(EMPTY, bare), ladder_fault(ALL, bare), told_lot(bare)], [None, ("lot",), EMPTY])

    def test_rungs_of_degree_0(self):
        self.assertIsNone(ladder_fault(ALL, FLAT))
        self.assertIsNone(ladder_fault(ALL, FLAT, 2))
        self.assertEqual(told_lot(FLAT), ALL)
        self.assertEqual(taylor(ALL), Ladder(2, (TOP, TOP), (((1,),),)))
        self.assertEqual(ladder_fault(ALL, Ladder(2, FLAT.rungs[:2], FLAT.maps[:1])), ("hole", (0, 0), 1))

    def test_long_integers(self):
        for entry in (SIXTY, -SIXTY, 97 ** 30):
            ladder = Ladder(1, (((0,),), ((1,),)), (((entry,),),))
            self.assertIs(is_ladder(LINE, ladder), True)
            self.assertIs(is_ladder(LINE, ladder, 97), entry != 97 ** 30)
        rungs = (((0,),), ((1,),) * 3, ((1,),) * 2)
        maps = (((SIXTY,), (SIXTY - 1,), (1,)), ((1, 0, -SIXTY), (0, 1, 1 - SIXTY)))
        ladder = Ladder(1, rungs, maps)
        self.assertIs(is_ladder(LINE, ladder), True)
        self.assertEqual(cut_down(ladder).table, table_of(LINE))
        great = 2 ** 61 - 1
        for entry in (great, great ** 3, 7 * great):
            ladder = Ladder(1, (((0,),), ((1,),)), (((entry,),),))
            self.assertIs(is_ladder(LINE, ladder), True)
            self.assertIs(is_ladder(LINE, ladder, 7), entry % 7 != 0)
        low = Ladder(1, rungs, (((0,),) * 3, ((great, 1, 0), (0, great, great - 1))))
        self.assertEqual(ladder_fault(Lot(1, ()), low), faults_of(Lot(1, ()), low, 0))

    def test_told_lots(self):
        rungs = (TOP, ((2, 0), (1, 1), (1, 0), (0, 3), (2, 0)))
        ladder = Ladder(2, rungs, (((1,), (2,), (6,), (0,), (5,)),))
        self.assertEqual(told_lot(ladder), Lot(2, ((1, 0),)))
        self.assertEqual(told_lot(ladder, 3), Lot(2, ((2, 0), (1, 1))) + Lot(2, ()))
        self.assertEqual(told_lot(ladder, 2), Lot(2, ((2, 0),)))
        self.assertEqual(told_lot(ladder, 5), Lot(2, ((1, 0),)))

    def test_told_lots_with_more_least_members(self):
        box = [p for p in itertools.product(range(3), range(4), range(4), range(4)) if sum(p) == 5]
        top = ((0,) * 4,)
        few = Ladder(4, (top, tuple(box[:24])), (((1,),) * 24,))
        self.assertEqual(told_lot(few).members, tuple(sorted(box[:24])))
        many = Ladder(4, (top, tuple(box[:25])), (((1,),) * 24 + ((2,),),))
        self.raises(TooMany(24), told_lot, many)
        self.assertEqual(told_lot(many, 2), told_lot(few))
        lot = Lot(4, tuple(box[:24]))
        self.assertEqual([ladder_fault(lot, many), ladder_fault(lot, many, 2)[0], is_ladder(lot, many)],
                         [("lot",), "hole", False])
        self.refuses(told_lot, (SMALL, 0), [(0, each(InvalidLadder, NO_OBJECTS + (EDGES,))), (1, each_number(NO_FIELDS))],
                     [((many, 0), TooMany(24))])

    def test_which_values_are_ladders(self):
        for value in NO_OBJECTS + (LONG, LONGER, EDGES, SQUARES, Table({}), (SMALL,), [SMALL], {1: SMALL}, DOUBLE, GAP):
            self.assertIs(is_ladder(SQUARES, value), False)
            self.assertIs(is_ladder(SQUARES, value, 97), False)
        self.assertIs(is_ladder(Lot(3, ()), Ladder(2, (TOP,), ())), False)
        self.assertIs(is_ladder(EDGES, TAYLOR), False)

    def test_wrong_arguments(self):
        lots, primes = (0, each(InvalidLot, NO_LOTS + (SMALL,))), each_number(NO_FIELDS)
        wrong = (1, each(InvalidLadder, NO_OBJECTS + (EDGES, DOUBLE)))
        self.refuses(ladder_fault, (SQUARES, SMALL, 0), [lots, wrong, (2, primes)])
        self.refuses(is_ladder, (SQUARES, SMALL, 0), [lots, (2, primes)])
        self.refuses(is_ladder, (SQUARES, None, 0), [lots, (2, primes)])

    def test_none_of_these_is_true(self):
        self.assertEqual([is_ladder(LINE, DOUBLE), is_ladder(LINE, DOUBLE, 2)], [True, False])
        other = Ladder(2, SMALL.rungs, (SMALL.maps[0], ((1, -1, 0), (0, -1, 1))))
        self.assertTrue(is_ladder(SQUARES, other) and is_least(other) and other != SMALL)


class CutsTest(CheckedTest):
    def check_cut(self, ladder, unit, prime):
        found = cut(ladder, unit, prime)
        self.assertEqual((found.letters, found.rungs, found.maps), (ladder.letters,) + cut_by_lists(ladder, unit, prime))
        self.assertEqual(Ladder(found.letters, found.rungs, found.maps), found)
        return found

    def test_units_and_cuts(self):
        chance = random.Random(78)
        cuts = 0
        for lot in LOTS + list(some_lots(79, 120, many=10, least=3)):
            if len(lot) > 7:
                continue
            for prime in (0, 2, 3):
                ladder = taylor(lot)
                while units_of(ladder, prime):
                    units = units_of(ladder, prime)
                    self.assertEqual(unit_of(ladder, prime), units[0])
                    self.assertIs(is_least(ladder, prime), False)
                    ladder = self.check_cut(ladder, chance.choice(units), prime)
                    cuts += 1
                    if cuts % 5 == 0:
                        self.assertIsNone(ladder_fault(lot, ladder, prime))
                self.assertIsNone(unit_of(ladder, prime))
                self.assertIs(is_least(ladder, prime), True)
                self.assertEqual(ladder.table, table_by_members(lot, prime) if not lot.is_all else ladder.table)
        self.assertGreater(cuts, 300)

    def test_fields_of_units(self):
        maps = (((1,), (1,)), ((6, -6),))
        ladder = Ladder(1, (((0,),), ((1,), (1,)), ((1,),)), maps)
        self.assertEqual([unit_of(ladder), unit_of(ladder, 2), unit_of(ladder, 3), unit_of(ladder, 5)],
                         [(2, 0, 0), None, None, (2, 0, 0)])
        self.assertEqual([is_least(ladder), is_least(ladder, 2), is_least(ladder, 7)], [False, True, False])
        self.raises(InvalidOperation, cut, ladder, (2, 0, 0), 2)
        self.assertEqual(cut(ladder, (2, 0, 1), 5), Ladder(1, (((0,),), ((1,),)), (((1,),),)))
        self.assertEqual(cut_down(ladder, 2), ladder)
        self.assertEqual(cut_down(ladder).maps, (((1,),),))

    def test_residues_of_all_maps(self):
        rungs = (((0,),), ((1,), (1,)), ((1,), (2,), (2,)), ((2,),))
        maps = (((7,), (-7,)), ((3, 10), (-3, 8), (5, 4)), ((9, -1, 13),))
        ladder = Ladder(1, rungs, maps)
        self.assertEqual(self.check_cut(ladder, (2, 0, 0), 0).maps, (((-7,),), ((54,), (-38,)), ((-1, 13),)))
        self.assertEqual(self.check_cut(ladder, (2, 0, 0), 5).maps, (((3,),), ((4,), (2,)), ((4, 3),)))
        self.assertEqual(self.check_cut(ladder, (3, 0, 2), 0).maps, (((7,), (-7,)), ((3, 10), (-3, 8))))
        self.assertEqual(self.check_cut(ladder, (3, 0, 1), 2).maps, (((1,), (1,)), ((1, 0), (1, 0))))

    def test_both_last_steps_leave(self):
        ladder = Ladder(1, (((0,),), ((1,),), ((1,),)), (((0,),), ((2,),)))
        self.assertEqual(cut(ladder, (2, 0, 0)), Ladder(1, (((0,),),), ()))
        self.assertEqual(cut(ladder, (2, 0, 0), 97), Ladder(1, (((0,),),), ()))
        long = Ladder(1, (((0,),), (), ((1,),), ((1,),)), ((), ((),), ((1,),)))
        self.assertEqual(cut_down(long), Ladder(1, (((0,),),), ()))

    def test_integers_of_more_than_sixty_digits(self):
        rungs = (((0,),), ((1,), (1,)), ((1,), (1,)))
        for power, fits in ((29, True), (30, False)):
            ladder = Ladder(1, rungs, (((0,), (0,)), ((10 ** 30, 7), (0, 10 ** power))))
            if fits:
                self.assertEqual(cut(ladder, (2, 0, 0)).maps, (((0,),), ((10 ** 59,),)))
                self.assertEqual(cut_down(ladder).rungs, (((0,),),))
            else:
                self.raises(TooMany(60), cut, ladder, (2, 0, 0))
                self.raises(TooMany(60), cut_down, ladder)
            self.assertEqual(cut(ladder, (2, 0, 0), 97).maps[1], (((10 ** (30 + power)) % 97,),))
        low = Ladder(1, rungs, (((0,), (0,)), ((1, SIXTY), (1, -SIXTY))))
        self.raises(TooMany(60), cut, low, (2, 0, 0))
        self.assertEqual(cut(low, (2, 0, 0), 3).maps, (((0,),), ((0,),)))
        self.refuses(
            cut, (low, (2, 0, 0), 7),
            [(0, each(InvalidLadder, NO_OBJECTS)), (2, each_number(NO_FIELDS)), (1, each(InvalidOperation, NO_UNITS))],
            [((low, (2, 0, 0), 0), TooMany(60))])

    def test_late_long_integers(self):
        """The first cut is short enough, the next one is not."""
        rungs = (((0,),), ((1,),) * 3, ((1,),) * 3)
        maps = (((0,),) * 3, ((10 ** 20, 0, 0), (0, 10 ** 20, 1), (0, 1, 10 ** 20)))
        ladder = Ladder(1, rungs, maps)
        small = cut(ladder, (2, 0, 0))
        self.assertEqual(small.maps[1], ((10 ** 40, 10 ** 20), (10 ** 20, 10 ** 40)))
        self.raises(TooMany(60), cut_down, ladder)
        self.assertEqual(cut_down(ladder, 97).rungs, (((0,),),))

    def test_cut_down(self):
        for lot in LOTS:
            for prime in FIELDS:
                ladder = taylor(lot)
                small = cut_down(ladder, prime)
                while unit_of(ladder, prime) is not None:
                    ladder = cut(ladder, unit_of(ladder, prime), prime)
                self.assertEqual(small, ladder)
                self.assertIs(is_least(small, prime), True)
            self.assertEqual(cut_down(taylor(lot)), cut_down(taylor(lot), 0))
        self.assertEqual(cut_down(SMALL), SMALL)
        self.assertEqual(cut_down(SMALL, 5).maps, SMALL.maps)

    def test_wrong_arguments(self):
        primes = each_number(NO_FIELDS)
        wrong = (0, each(InvalidLadder, NO_OBJECTS + (EDGES,)))
        for call in (unit_of, is_least):
            self.refuses(call, (SMALL, 0), [wrong, (1, primes)])
        big = Ladder(1, (((0,),), ((1,), (1,)), ((1,), (1,))), (((0,), (0,)), ((1, SIXTY), (1, -SIXTY))))
        self.refuses(cut_down, (SMALL, 0), [wrong, (1, primes)], [((big, 0), TooMany(60))])
        self.refuses(cut, (TAYLOR, (3, 0, 1), 0), [wrong, (2, primes), (1, each(InvalidOperation, NO_UNITS))])


# None of these are rungs of a ladder, but maps of them can be told.
NO_RUNGS = (
    ((),), (((1, 0),),), (((0, 1),),), (TOP + TOP,), (((0, 0, 0),),), (((0,),),), (TOP, ()), (TOP, ((1, 0),), ()),
    (TOP, (), ()), (TOP,) + (((1, 0),),) * 9, (TOP, ((1, 0),) * 71), (TOP, ((1, 61),)), (TOP, ((1, -1),)),
    (TOP, ((1, True),)), (((0, False),),), (TOP, ((1,),)), (TOP, ((1, 0, 0),)), (TOP, ([1, 0],)), (TOP, [(1, 0)]),
    [TOP, ((1, 0),)], ([(0, 0)], ((1, 0),)), ((), ((1, 0),)), (((1, 0),), ((1, 0),)), (TOP, ((1, LONGER),)))


def zero_maps(rungs):
    """Maps between these rungs with integers 0 alone."""
    return tuple(((0,) * len(low),) * len(high) for low, high in zip(rungs, rungs[1:]))


# None of these is a unit of Taylor's ladder of SQUARES, or of another ladder of two steps with a unit (2, 0, 0).
NO_UNITS = NO_OBJECTS + (
    (3, 0, 0), (3, 0), (3, 0, 1, 0), (3, 1, 1), (3, 0, 3), (3, -1, 1), (3, 0, -2), (4, 0, 1), (1, 0, 0), (0, 0, 0),
    (-1, 0, 1), (3, False, 1), (3, 0, True), ("3", 0, 1), [3, 0, 1], (LONGER, 0, 1), (3, LONGER, 1),
    (3, 0, (1,)), (None, 0, 1), EDGES, SMALL, (2, False, 0), [2, 0, 0], (2, 0))


class LeastLaddersTest(CheckedTest):
    def test_taylor(self):
        for lot in LOTS:
            ladder = taylor(lot)
            sets = [[c for c in itertools.combinations(range(len(lot)), k)] for k in range(len(lot) + 1)]
            for step, chosen in enumerate(sets):
                products = tuple(
                    tuple(max([lot.members[k][at] for k in one], default=0) for at in range(lot.letters)) for one in chosen)
                self.assertEqual(ladder.rungs[step], products)
                for upper, one in enumerate(chosen):
                    for lower, other in enumerate(sets[step - 1] if step else []):
                        faces = [one[:a] + one[a + 1:] for a in range(len(one))]
                        entry = (-1) ** faces.index(other) if other in faces else 0
                        self.assertEqual(ladder.maps[step - 1][upper][lower], entry)
            self.assertEqual([len(ladder.rungs), len(ladder.maps)], [len(lot) + 1, len(lot)])
            self.assertEqual(Ladder(lot.letters, ladder.rungs, ladder.maps), ladder)
        self.assertEqual(taylor(EMPTY), Ladder(2, (TOP,), ()))

    def test_least_ladders(self):
        for lot in LOTS + list(some_lots(80, 20, letters=5, many=7, least=3)):
            for prime in FIELDS:
                ladder = least_ladder(lot, prime)
                self.assertIs(is_ladder(lot, ladder, prime), True)
                self.assertIs(is_least(ladder, prime), True)
                self.assertEqual(Ladder(lot.letters, ladder.rungs, ladder.maps), ladder)
                if lot.is_all:
                    continue
                fine = {}
                for step, rungs in enumerate(ladder.rungs):
                    for rung in rungs:
                        fine[step, rung] = fine.get((step, rung), 0) + 1
                self.assertEqual(fine, fine_table(lot, prime))
                self.assertEqual(ladder.table, table_of(lot, prime))
            self.assertIs(is_ladder(lot, least_ladder(lot)), True)

    def test_seven_members_and_eight(self):
        eight = Lot(8, tuple(tuple(int(at in (k, (k + 1) % 8)) for at in range(8)) for k in range(8)))
        seven = Lot(8, eight.members[1:])
        ladder = taylor(seven)
        self.assertEqual(str(ladder), "ladder of 1, 7, 21, 35, 35, 21, 7, 1 rungs")
        for prime in (0, 2):
            least = least_ladder(seven, prime)
            self.assertEqual(least.table, table_by_members(seven, prime))
            self.assertIs(is_ladder(seven, least, prime), True)
            self.assertEqual(cut_down(ladder, prime).table, least.table)
        self.assertIs(is_ladder(seven, ladder), True)
        self.raises(TooMany(7), taylor, eight)
        self.raises(TooMany(7), least_ladder, eight)
        lots = (0, each(InvalidLot, NO_LOTS + (SMALL,)))
        self.refuses(taylor, (SQUARES,), [lots], [((eight,), TooMany(7))])
        self.refuses(least_ladder, (SQUARES, 0), [lots, (1, each_number(NO_FIELDS))], [((eight, 0), TooMany(7))])
        self.raises(InvalidNumber(4), least_ladder, eight, 4)

    def test_seven_letters(self):
        letters = Lot(7, tuple(tuple(int(at == k) for at in range(7)) for k in range(7)))
        self.assertEqual(least_ladder(letters), taylor(letters))


if __name__ == "__main__":
    unittest.main()
