"""[10.1] to [10.7]: straight lots, letter orders, and lots of pairs."""

import itertools
import math
import random
import unittest

from pureladders.errors import InvalidLot, InvalidOperation, TooMany
from pureladders.family.families import Family, lot_of
from pureladders.family.links import dual_lot
from pureladders.lot.lots import Lot
from pureladders.part.parts import table_of
from pureladders.stable.lots import closing
from pureladders.straight import orders
from pureladders.straight.orders import (
    is_letter_order, is_straight, letter_order, quotient_letters, straight_bar, table_by_order)
from pureladders.straight.pairs import is_web_paper, pair_web, web_paper
from pureladders.table.tables import Table
from tests.chance import some_lots, squarefree_lots
from tests.checked import (
    EDGES, FIELDS, LONGER, NESTED, NO_FIELDS, NO_LOTS, NO_OBJECTS, RING, SQUARES, CheckedTest, each, each_number)
from tests.test_families import HALF
from tests.test_parts import ABOVE

ORDER = ((0, 0, 1, 1), (0, 1, 1, 0), (1, 1, 0, 0))
EMPTY, ALL = Lot(4, ()), Lot(4, ((0, 0, 0, 0),))
SPHERE = lot_of(HALF)


def one_degree_lots(seed, count, letters=4, many=7):
    """Lots of products of one degree, at least one."""
    chance = random.Random(seed)
    for _ in range(count):
        n, degree = chance.randint(1, letters), chance.randint(1, 3)
        products = [p for p in itertools.product(range(degree + 1), repeat=n) if sum(p) == degree]
        yield Lot(n, tuple(chance.sample(products, min(len(products), chance.randint(1, many)))))


LOTS = [lot for lot in list(some_lots(100, 50, many=5, least=2)) + list(one_degree_lots(101, 60)) +
        [EDGES, SQUARES, RING, Lot(1, ((8,),))] if lot and not lot.is_all]


def letters_by_quotients(lot, order):
    """The quotient letters of each member, by quotients of lots; None if one has others."""
    found = []
    for at, member in enumerate(order):
        rest = Lot(lot.letters, order[:at]).quotient(member)
        if any(degree != 1 for degree in rest.degrees):
            return None
        found.append(tuple(sorted(m.index(1) for m in rest.members)))
    return tuple(found)


class StraightTest(CheckedTest):
    def test_examples(self):
        self.assertEqual(orders.MAX_ORDERED, 8)
        self.assertEqual(
            [is_straight(EDGES), straight_bar(RING), straight_bar(SQUARES), is_straight(RING, 2)],
            [True, ('place', 2, 4), ('degrees', 2, 3), False])
        self.assertEqual(
            [is_letter_order(EDGES, ORDER), quotient_letters(EDGES, ORDER),
             is_letter_order(EDGES, ((1, 1, 0, 0), (0, 0, 1, 1), (0, 1, 1, 0))), letter_order(RING)],
            [True, ((), (3,), (2,)), False, None])
        self.assertEqual(table_by_order(EDGES, ORDER), table_of(EDGES))
        self.raises(InvalidOperation, quotient_letters, RING, ((1, 0, 1, 0), (0, 1, 0, 1)))

    def test_straight_lots_and_bars(self):
        kinds = set()
        for lot in LOTS:
            low, high = min(map(sum, lot.members)), max(map(sum, lot.members))
            for prime in FIELDS:
                bar = straight_bar(lot, prime)
                places = [(i, j) for i, j in table_of(lot, prime).entries if i >= 1 and j != low + i - 1]
                if low != high:
                    self.assertEqual(bar, ("degrees", low, high))
                elif places:
                    self.assertEqual(bar, ("place",) + min(places))
                else:
                    self.assertIsNone(bar)
                self.assertIs(is_straight(lot, prime), bar is None)
                kinds.add(bar and bar[0])
            self.assertEqual([straight_bar(lot), is_straight(lot)], [straight_bar(lot, 0), is_straight(lot, 0)])
        self.assertEqual(kinds, {None, "degrees", "place"})

    def test_fields(self):
        self.assertEqual([straight_bar(SPHERE), straight_bar(SPHERE, 2), straight_bar(SPHERE, 3)], [None, ("place", 3, 6), None])
        self.assertEqual([is_straight(SPHERE), is_straight(SPHERE, 2)], [True, False])

    def test_the_least_place(self):
        three = Lot(6, ((1, 1, 0, 0, 0, 0), (0, 0, 1, 1, 0, 0), (0, 0, 0, 0, 1, 1)))
        self.assertEqual(straight_bar(three), ("place", 2, 4))
        rings = Lot(5, tuple(tuple(int(at in (k, (k + 2) % 5)) for at in range(5)) for k in range(5)))
        self.assertEqual(straight_bar(rings), ("place", 3, 5))

    def test_great_lots(self):
        great = Lot(8, ABOVE[32])
        self.assertNotEqual(great.degrees[0], great.degrees[-1])
        self.assertEqual(straight_bar(great), ("degrees", great.degrees[0], great.degrees[-1]))
        self.assertIs(is_straight(great), False)
        same = Lot(8, tuple(tuple(int(at == k) for at in range(8)) for k in range(8)))
        for call in (is_straight, straight_bar):
            self.refuses(call, (EDGES, 0), [(0, each(InvalidLot, NO_LOTS)), (1, each_number(NO_FIELDS))],
                         [((same, 0), TooMany(8000))])
            self.refuses(call, (SQUARES, 0), [(0, each(InvalidLot, NO_LOTS)), (1, each_number(NO_FIELDS))])

    def test_lots_without_members_and_all(self):
        for lot in (EMPTY, ALL, Lot(1, ()), Lot(1, ((0,),))):
            for call in (is_straight, straight_bar):
                self.raises(InvalidOperation, call, lot)
                self.raises(InvalidOperation, call, lot, 2)
                self.raises(InvalidOperation, call, lot, 4)
            for call in (letter_order, pair_web, web_paper):
                self.raises(InvalidOperation, call, lot)
            for call in (is_letter_order, quotient_letters, table_by_order, is_web_paper):
                self.raises(InvalidOperation, call, lot, ())
                self.raises(InvalidOperation, call, lot, None)

    def test_wrong_lots(self):
        for value in NO_LOTS + (HALF, Table({})):
            for call in (letter_order, pair_web, web_paper):
                self.raises(InvalidLot, call, value)
            for call in (is_letter_order, quotient_letters, table_by_order, is_web_paper):
                self.raises(InvalidLot, call, value, None)


class OrdersTest(CheckedTest):
    def test_orders_by_all_sequences(self):
        found = set()
        for lot in LOTS:
            if len(lot) > 5:
                continue
            good = []
            for order in itertools.permutations(lot.members):
                letters = letters_by_quotients(lot, order)
                self.assertIs(is_letter_order(lot, order), letters is not None)
                if letters is None:
                    self.raises(InvalidOperation, quotient_letters, lot, order)
                    self.raises(InvalidOperation, table_by_order, lot, order)
                    continue
                good.append(order)
                self.assertEqual(quotient_letters(lot, order), letters)
                degrees = [sum(member) for member in order]
                if degrees != sorted(degrees):
                    self.raises(InvalidOperation, table_by_order, lot, order)
                else:
                    self.check_table(lot, order, letters)
            order = letter_order(lot)
            self.assertIn(order, good or [None])
            found.add(order is None)
        self.assertEqual(found, {True, False})

    def check_table(self, lot, order, letters):
        entries = {(0, 0): 1}
        for member, chosen in zip(order, letters):
            for step in range(1, 9):
                number = math.comb(len(chosen), step - 1)
                place = (step, sum(member) + step - 1)
                if number:
                    entries[place] = entries.get(place, 0) + number
        table = table_by_order(lot, order)
        self.assertEqual(table, Table(entries))
        for prime in (0, 2):
            self.assertEqual(table, table_of(lot, prime))
        if len({sum(member) for member in order}) == 1:
            self.assertTrue(is_straight(lot) and is_straight(lot, 2))

    def test_falling_degrees(self):
        lot = Lot(2, ((2, 0), (1, 2)))
        self.assertEqual([is_letter_order(lot, ((2, 0), (1, 2))), is_letter_order(lot, ((1, 2), (2, 0)))], [True, False])
        low = Lot(2, ((1, 0), (0, 2)))
        self.assertIs(is_letter_order(low, ((0, 2), (1, 0))), False)
        both = Lot(3, ((1, 1, 0), (1, 0, 2), (0, 1, 1)))
        orders_of = [one for one in itertools.permutations(both.members) if is_letter_order(both, one)]
        falling = [one for one in orders_of if [sum(m) for m in one] != sorted(sum(m) for m in one)]
        self.assertTrue(falling)
        for order in falling:
            self.assertEqual(len(quotient_letters(both, order)), 3)
            self.raises(InvalidOperation, table_by_order, both, order)

    def test_stable_lots_have_letter_orders(self):
        for products in (((0, 2, 1),), ((1, 0, 1), (0, 3, 0)), ((0, 1, 1),)):
            lot = closing(3, products, strong=True)
            order = tuple(sorted(lot.members, key=lambda one: (sum(one), [-e for e in one])))
            self.assertIs(is_letter_order(lot, order), True)
            self.assertEqual(table_by_order(lot, order), table_of(lot))
            if len(lot) <= 8:
                self.assertTrue(is_letter_order(lot, letter_order(lot)))

    def test_eight_members_and_nine(self):
        for many in (8, 9):
            lot = Lot(2, tuple((k, many - 1 - k) for k in range(many)))
            order = tuple((many - 1 - k, k) for k in range(many))
            self.assertIs(is_letter_order(lot, order), True)
            self.assertEqual(quotient_letters(lot, order), ((),) + ((0,),) * (many - 1))
            self.assertEqual(str(table_by_order(lot, order)), f"0: 1 at 0; 1: {many} at {many - 1}; 2: {many - 1} at {many}")
            if many == 8:
                self.assertIs(is_letter_order(lot, letter_order(lot)), True)
            else:
                self.refuses(letter_order, (SQUARES,), [(0, each(InvalidLot, NO_LOTS))], [((lot,), TooMany(8))])
        letters = Lot(8, tuple(tuple(int(at == k) for at in range(8)) for k in range(8)))
        self.assertEqual(len(quotient_letters(letters, letter_order(letters))[-1]), 7)
        self.assertEqual(table_by_order(letters, letter_order(letters)).at(8, 8), (1, 1))
        apart = Lot(8, tuple(tuple(int(at == k) * 2 for at in range(8)) for k in range(8)))
        self.assertIsNone(letter_order(apart))

    def test_which_values_are_orders(self):
        for value in NO_OBJECTS + (
                (), ORDER[:2], ORDER + ORDER[:1], list(ORDER), (list(ORDER[0]),) + ORDER[1:], ORDER[:2] + ((1, 1, 0),),
                ORDER[:2] + ((1, 0, 0, 1),), ORDER[:2] + ((True, 1, 0, 0),), ORDER[:2] + ((True, True, False, False),),
                ORDER[:2] + (None,), ORDER[:2] + (EDGES,), (ORDER,), ORDER[:1] * 3, (LONGER,) * 3, NESTED, EDGES,
                {one: 1 for one in ORDER}, ORDER[:2] + ((1, 1, 0, 0, 0),), (ORDER[0], ORDER[2], ORDER[1])):
            self.assertIs(is_letter_order(EDGES, value), False)
            for call in (quotient_letters, table_by_order):
                self.raises(InvalidOperation, call, EDGES, value)
        self.assertIs(is_letter_order(Lot(1, ((8,),)), ((8,),)), True)
        self.assertEqual(quotient_letters(Lot(1, ((8,),)), ((8,),)), ((),))

    def test_none_of_these_is_true(self):
        self.assertEqual([is_straight(SPHERE), is_straight(SPHERE, 2)], [True, False])
        for order in itertools.islice(itertools.permutations(SPHERE.members), 200):
            self.assertIs(is_letter_order(SPHERE, order), False)
        one, other = Lot(4, ((1, 0, 1, 0),)), Lot(4, ((0, 1, 0, 1),))
        self.assertEqual([is_straight(one), is_straight(other), is_straight(one + other)], [True, True, False])


def pairs_lot(letters, pairs):
    return Lot(letters, tuple(tuple(int(at in pair) for at in range(letters)) for pair in pairs))


def is_order_by_look(lot, letters):
    """Whether a sequence of all letters is an order paper, by a look at all triples."""
    def tied(one, other):
        return tuple(int(at in (one, other)) for at in range(lot.letters)) not in lot

    for i, j, k in itertools.combinations(range(len(letters)), 3):
        one, two, three = letters[i], letters[j], letters[k]
        if tied(one, two) and tied(one, three) and not tied(two, three):
            return False
    return True


def is_ring_by_look(lot, letters):
    """Whether a sequence of letters is a ring paper, by a look at all pairs."""
    def tied(one, other):
        return tuple(int(at in (one, other)) for at in range(lot.letters)) not in lot

    many = len(letters)
    if many < 4:
        return False
    for i, j in itertools.combinations(range(many), 2):
        if tied(letters[i], letters[j]) != (j - i in (1, many - 1)):
            return False
    return True


class PairsTest(CheckedTest):
    def test_examples(self):
        self.assertEqual(
            [pair_web(EDGES), is_web_paper(EDGES, ("order", (2, 0, 3, 1))), web_paper(RING)[0],
             is_web_paper(RING, ("ring", (1, 2, 3, 0))), is_web_paper(RING, ("ring", (0, 1, 2)))],
            [((0, 2), (0, 3), (1, 3)), True, 'ring', True, False])

    def all_lots(self, letters):
        pairs = list(itertools.combinations(range(letters), 2))
        for size in range(1, len(pairs) + 1):
            for chosen in itertools.combinations(pairs, size):
                yield chosen, pairs_lot(letters, chosen)

    def test_papers_of_few_letters(self):
        for letters in (2, 3, 4):
            for chosen, lot in self.all_lots(letters):
                web = tuple(pair for pair in itertools.combinations(range(letters), 2) if pair not in chosen)
                self.assertEqual(pair_web(lot), web)
                good = []
                for size in range(letters + 1):
                    for sequence in itertools.permutations(range(letters), size):
                        ordered = size == letters and is_order_by_look(lot, sequence)
                        ring = is_ring_by_look(lot, sequence)
                        self.assertIs(is_web_paper(lot, ("order", sequence)), ordered)
                        self.assertIs(is_web_paper(lot, ("ring", sequence)), ring)
                        good += [("order", sequence)] * ordered + [("ring", sequence)] * ring
                self.assertIn(web_paper(lot), good)
                self.assertEqual(len({word for word, _ in good}), 1)
                self.check_straight(lot)

    def check_straight(self, lot):
        word, letters = web_paper(lot)
        for prime in (0, 2, 3):
            self.assertIs(is_straight(lot, prime), word == "order")
            if word == "ring":
                self.assertGreater(table_of(lot, prime).at(len(letters) - 2, len(letters))[0], 0)

    def test_papers_of_five_letters(self):
        rings = set()
        for chosen, lot in self.all_lots(5):
            word, letters = web_paper(lot)
            look = is_order_by_look if word == "order" else is_ring_by_look
            self.assertTrue(look(lot, letters))
            self.assertTrue(word == "ring" or sorted(letters) == [0, 1, 2, 3, 4])
            self.assertIs(is_web_paper(lot, (word, letters)), True)
            rings.add(len(letters) if word == "ring" else 0)
        self.assertEqual(rings, {0, 4, 5})

    def test_papers_of_more_letters(self):
        chance = random.Random(110)
        rings = set()
        for _ in range(400):
            letters = chance.randint(6, 8)
            pairs = list(itertools.combinations(range(letters), 2))
            lot = pairs_lot(letters, chance.sample(pairs, chance.randint(1, min(len(pairs), 24))))
            word, found = web_paper(lot)
            look = is_order_by_look if word == "order" else is_ring_by_look
            self.assertTrue(look(lot, found))
            self.assertTrue(all(type(letter) is int for letter in found) and len(set(found)) == len(found))
            self.assertTrue(word == "ring" or len(found) == letters)
            self.assertIs(is_web_paper(lot, (word, found)), True)
            rings.add(len(found) if word == "ring" else 0)
        self.assertTrue(rings >= {0, 4, 5})

    def test_great_rings(self):
        for letters in (4, 5, 6, 7, 8):
            ring = [tuple(sorted((k, (k + 1) % letters))) for k in range(letters)]
            pairs = [pair for pair in itertools.combinations(range(letters), 2) if pair not in ring]
            lot = pairs_lot(letters, pairs)
            self.assertEqual(pair_web(lot), tuple(sorted(ring)))
            word, found = web_paper(lot)
            self.assertEqual([word, len(found)], ["ring", letters])
            self.assertTrue(is_ring_by_look(lot, found))
            for turn in range(letters):
                turned = tuple((turn + k) % letters for k in range(letters))
                self.assertIs(is_web_paper(lot, ("ring", turned)), True)
                self.assertIs(is_web_paper(lot, ("ring", turned[::-1])), True)
                self.assertIs(is_web_paper(lot, ("order", turned)), False)
                self.assertIs(is_web_paper(lot, ("ring", turned[1:])), False)

    def test_letters_that_stand_in_no_pair(self):
        lot = pairs_lot(5, ((0, 1),))
        self.assertEqual(len(pair_web(lot)), 9)
        word, letters = web_paper(lot)
        self.assertEqual([word, sorted(letters)], ["order", [0, 1, 2, 3, 4]])
        self.assertEqual(
            [is_web_paper(lot, ("order", (0, 1, 2, 3, 4))), is_web_paper(lot, ("order", (2, 0, 1, 3, 4))),
             is_web_paper(lot, ("order", (0, 1)))], [True, False, False])
        apart = pairs_lot(6, ((0, 2), (1, 3)))
        self.assertEqual([web_paper(apart)[0], is_web_paper(apart, ("ring", (0, 1, 2, 3)))], ["ring", True])

    def test_which_values_are_papers(self):
        order, ring = (2, 0, 3, 1), (0, 1, 2, 3)
        for value in NO_OBJECTS + (
                order, ("order",), ("order", order, 1), ["order", order], ("order", list(order)), ("ring", order),
                ("orders", order), ("", order), (None, order), (EDGES, order), ("order", None), ("order", 4), ("order", ()),
                ("order", (2, 0, 3)), ("order", (2, 0, 3, 1, 1)), ("order", (2, 0, 3, 3)), ("order", (2, 0, 3, 4)),
                ("order", (2, 0, 3, -1)), ("order", (2, 0, 3, True)), ("order", (2, False, 3, 1)), ("order", "2031"),
                ("order", (2, 0, 3, "1")), ("order", (2, 0, LONGER, 1)), ("order", (2, 0, 3, None)), ("order", EDGES),
                ("order", (order,)), ("order", [2, 0, 3, 1]), (("order",), order), NESTED, EDGES, {"order": order}):
            self.assertIs(is_web_paper(EDGES, value), False)
        self.assertIs(is_web_paper(EDGES, ("order", order)), True)
        for value in (("ring", list(ring)), ("ring", (0, 1, 2)), ("ring", (False, 1, 2, 3)), ("ring", (0, True, 2, 3)),
                      ("ring", (0, 2, 1, 3)), ("ring", ring + (0,)), ("ring", (0, 1, 2, 2)), ("order", ring),
                      ("ring", ()), ("ring", (0, 1, 2, 4)), ("rings", ring), (1, ring), ("ring", None)):
            self.assertIs(is_web_paper(RING, value), False)
        self.assertIs(is_web_paper(RING, ("ring", ring)), True)

    def test_lots_of_other_products(self):
        for lot in (SQUARES, Lot(2, ((2, 0),)), Lot(2, ((1, 0),)), Lot(3, ((1, 1, 1),)), Lot(3, ((1, 1, 0), (0, 0, 2))),
                    Lot(3, ((1, 1, 0), (0, 0, 1))), Lot(4, ((1, 1, 0, 0), (0, 1, 1, 1))), Lot(4, ((1, 1, 0, 0), (0, 0, 2, 0)))):
            for call in (pair_web, web_paper):
                self.raises(InvalidOperation, call, lot)
            self.raises(InvalidOperation, is_web_paper, lot, ("order", (0, 1)))

    def test_straight_duals(self):
        """[10.4]: whole families of lots whose members have one degree."""
        for lot in squarefree_lots(111, 40):
            if lot and not lot.is_all and lot.degrees[0] == lot.degrees[-1]:
                for prime in (0, 2):
                    family = Family(lot.letters, tuple(family_members(dual_lot(lot))))
                    whole = not any(below(family, member, prime) for member in family)
                    self.assertIs(is_straight(lot, prime), whole)


def family_members(lot):
    """The sets of letters whose products the lot leaves."""
    sets = [one for size in range(lot.letters + 1) for one in itertools.combinations(range(lot.letters), size)]
    return [one for one in sets if tuple(int(at in one) for at in range(lot.letters)) not in lot]


def below(family, member, prime):
    """Whether the link of a member has a hole below its own dimension."""
    return any(family.link(member).holes(prime)[:-1])


if __name__ == "__main__":
    unittest.main()
