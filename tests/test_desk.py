"""[18.3] to [18.5]: a desk with lots by names, and sayings about them."""

import random
import unittest

from pureladders.desk import desk as module
from pureladders.desk.desk import Desk
from pureladders.errors import InvalidNumber, InvalidOperation, NothingToUndo, Refused, TooMany, UnknownName
from pureladders.family.families import Family
from pureladders.lot.lots import Lot
from pureladders.part.parts import table_of
from pureladders.row.counts import dimension
from pureladders.stable.lots import closing, is_strongly_stable
from pureladders.straight.orders import is_straight
from pureladders.table.tables import Table
from tests.checked import (
    EDGES, LONG, LONGER, NESTED, NO_FIELDS, NO_INTEGERS, NO_PRODUCTS, RING, SIXTY, SQUARES, CheckedTest)
from tests.test_parts import ABOVE

NO_NAMES = (None, True, 0, LONGER, "", "A", "a1", "a b", " a", "a\n", "aB", "_", "abcdefghi", "a" * 4000, (), ("a",), ["a"], {},
            {"a": 1}, NESTED, EDGES)
GOOD = ("a", "z", "abcdefgh", "desk")
STAIR = Lot(4, tuple((at, 6 - at, 0, 0) for at in range(7)))
OTHER = Lot(4, tuple((0, 0, at, 6 - at) for at in range(7)))
EMPTY, ALL = Lot(4, ()), Lot(4, ((0, 0, 0, 0),))


def divides(one, other):
    return all(a <= b for a, b in zip(one, other))


def least(products):
    return frozenset(p for p in products if not any(q != p and divides(q, p) for q in products))


class Kept:
    """The desk that the test keeps: names to sets of least members, and a list of sayings."""

    def __init__(self, letters):
        self.letters, self.lots, self.sayings, self.moves = letters, {}, [], []

    def after(self, deeds):
        """The lots behind some deeds, or an error."""
        lots = dict(self.lots)
        for at, deed in enumerate(deeds):
            word, name, *rest = deed
            asked = {"put": [], "take": [name], "add": [name], "quotient": [name]}.get(word, rest)
            missing = [one for one in asked if one not in lots]
            if missing:
                return UnknownName(missing[0])
            if word == "put":
                lots[name] = frozenset(rest[0].members)
            elif word == "take":
                del lots[name]
            else:
                lots[name] = least(self.products(word, lots, asked, rest))
                if len(lots[name]) > 24:
                    return Refused(("great", at))
        return lots

    def products(self, word, lots, asked, rest):
        members = lots[asked[0]]
        if word == "add":
            return members | {rest[0]}
        if word == "quotient":
            return {tuple(max(a - b, 0) for a, b in zip(m, rest[0])) for m in members}
        if word == "join":
            return members | lots[asked[1]]
        return {tuple(map(max, m, p)) for m in members for p in lots[asked[1]]}

    def is_true(self, saying, lots):
        word, members, *rest = saying[0], lots[saying[1]], *saying[2:]
        lot = Lot.read("(" + ", ".join(words_of(m) for m in sorted(members)) + ")", self.letters)
        if word in ("in", "left"):
            return any(divides(m, rest[0]) for m in members) is (word == "in")
        if word == "within":
            return all(any(divides(p, m) for p in lots[rest[0]]) for m in members)
        if word == "stable":
            return is_strongly_stable(lot)
        if word == "dimension":
            return dimension(lot) == rest[0]
        try:
            if word == "table":
                return table_of(lot, rest[0]) == rest[1]
            return bool(members) and not lot.is_all and is_straight(lot, rest[0])
        except TooMany:
            return False

    def do(self, deeds):
        """Do the deeds; the error that refuses them, or None."""
        lots = self.after(deeds)
        if not isinstance(lots, dict):
            return lots
        for saying in self.sayings:
            if not all(name in lots for name in names_in(saying)):
                return Refused(("taken", saying))
        for saying in self.sayings:
            if not self.is_true(saying, lots):
                return Refused(("broken", saying))
        self.move(lots, self.sayings)
        return None

    def say(self, saying):
        missing = [name for name in names_in(saying) if name not in self.lots]
        if missing:
            return UnknownName(missing[0])
        if saying in self.sayings:
            return None
        if len(self.sayings) == 20:
            return TooMany(20)
        if not self.is_true(saying, self.lots):
            return Refused(("false",))
        self.move(self.lots, self.sayings + [saying])
        return None

    def unsay(self, saying):
        if saying not in self.sayings:
            return UnknownName(saying)
        self.move(self.lots, [one for one in self.sayings if one != saying])
        return None

    def move(self, lots, sayings):
        if lots != self.lots or sayings != self.sayings:
            self.moves.append((self.lots, self.sayings))
            self.lots, self.sayings = lots, sayings

    def undo(self, steps):
        if steps > len(self.moves):
            return NothingToUndo(steps)
        self.lots, self.sayings = self.moves[-steps]
        del self.moves[-steps:]
        return None


def words_of(member):
    words = [f"x{at + 1}" + (f"^{e}" if e > 1 else "") for at, e in enumerate(member) if e]
    return " ".join(words) or "1"


def names_in(saying):
    return list(saying[1:3]) if saying[0] == "within" else [saying[1]]


class Chance:
    """Deeds and sayings by chance, most of which can be done and are true."""

    def __init__(self, seed, letters):
        self.chance, self.letters = random.Random(seed), letters

    def name(self):
        return self.chance.choice("aaabbbccde")

    def product(self, most=2):
        return tuple(self.chance.choice((0, 0, 1, self.chance.randint(0, most))) for _ in range(self.letters))

    def lot(self):
        products = tuple(self.product() for _ in range(self.chance.randint(0, 3)))
        return closing(self.letters, products, strong=True) if self.chance.random() < 0.2 else Lot(self.letters, products)

    def deed(self):
        word = self.chance.choice(("put", "put", "take", "add", "add", "join", "meet", "quotient", "quotient"))
        name = self.name()
        if word == "put":
            return (word, name, self.lot())
        if word == "take":
            return (word, name)
        if word in ("add", "quotient"):
            return (word, name, self.product())
        return (word, name, self.name(), self.name())

    def saying(self, kept):
        word = self.chance.choice(("in", "left", "within", "within", "straight", "stable", "dimension", "table"))
        name, prime = self.name(), self.chance.choice((0, 0, 2, 97))
        if word == "stable":
            return (word, name)
        if word == "within":
            return (word, name, self.name())
        if word == "straight":
            return (word, name, prime)
        if word in ("in", "left"):
            return (word, name, self.product(4))
        members = kept.lots.get(name, frozenset())
        lot = Lot(self.letters, tuple(members)) if all(max(m) <= 8 for m in members) else self.lot()
        if word == "dimension":
            return (word, name, dimension(lot) + self.chance.choice((0, 0, 1)))
        return (word, name, prime, table_of(lot, prime) + Table({(0, 0): self.chance.choice((0, 0, 1))}))


class DeskTest(CheckedTest):
    def test_examples(self):
        self.assertEqual((module.MAX_NAME, module.MAX_SAID), (8, 20))
        desk = Desk(4)
        desk.do(("put", "a", EDGES), ("put", "b", EDGES), ("quotient", "b", (0, 1, 0, 0)))
        self.assertEqual([desk.say(saying) for saying in (
            ("within", "a", "b"), ("straight", "a", 0), ("left", "a", (1, 0, 0, 1)))], [None, None, None])
        self.assertEqual(
            [desk["b"].members, desk.is_true(("in", "b", (1, 0, 0, 0))), desk.past, str(desk)],
            [((0, 0, 1, 0), (1, 0, 0, 0)), True, 4, 'desk of 4 letters: 2 lots, 3 sayings'])
        self.raises(Refused(('broken', ('left', 'a', (1, 0, 0, 1)))), desk.do, ("add", "a", (1, 0, 0, 1)))
        desk.unsay(("left", "a", (1, 0, 0, 1)))
        desk.do(("add", "a", (1, 0, 0, 1)))
        self.assertTrue(desk.is_true(("within", "a", "b")) and desk.is_true(("straight", "a", 0)))

    def same(self, desk, kept):
        """Check that the desk has just what the test keeps, and that all sayings are true."""
        self.assertEqual({name: frozenset(lot.members) for name, lot in desk.lots.items()}, kept.lots)
        self.assertEqual(list(desk.lots), sorted(kept.lots))
        self.assertEqual(desk.sayings, tuple(kept.sayings))
        self.assertEqual([desk.letters, desk.past, len(desk), list(desk)],
                         [kept.letters, len(kept.moves), len(kept.lots), sorted(kept.lots)])
        self.assertEqual(str(desk), f"desk of {kept.letters} letters: {len(kept.lots)} lots, {len(kept.sayings)} sayings")
        for saying in desk.sayings:
            self.assertIs(desk.is_true(saying), True)
            self.assertTrue(kept.is_true(saying, kept.lots))

    def step(self, desk, error, call, *args):
        """Call a method of the desk that is refused by an error, or by none."""
        before = desk.twin()
        if error is None:
            self.assertIsNone(call(*args))
            return type(None)
        self.raises(error, call, *args)
        self.assertTrue(desk == before and desk.past == before.past)
        return (type(error), *getattr(error, "reason", ("",))[:1])

    def history(self, seed, letters, length):
        """A history by chance; which errors there were in it."""
        chance, desk, kept, seen = Chance(seed, letters), Desk(letters), Kept(letters), set()
        for _ in range(length):
            turn = chance.chance.random()
            if turn < 0.5:
                deeds = [chance.deed() for _ in range(chance.chance.choice((0, 1, 1, 1, 2, 3)))]
                seen.add(self.step(desk, kept.do(deeds), desk.do, *deeds))
            elif turn < 0.85:
                saying = chance.saying(kept)
                known = all(name in kept.lots for name in names_in(saying))
                self.assertIs(desk.is_true(saying), known and kept.is_true(saying, kept.lots))
                seen.add(self.step(desk, kept.say(saying), desk.say, saying))
            elif turn < 0.93 and kept.sayings:
                saying = chance.chance.choice(kept.sayings + [("stable", "a")])
                seen.add(self.step(desk, kept.unsay(saying), desk.unsay, saying))
            else:
                steps = chance.chance.randint(1, 4)
                seen.add(self.step(desk, kept.undo(steps), desk.undo, *([steps] if steps > 1 else [])))
            self.same(desk, kept)
        return seen

    def test_histories(self):
        seen = set()
        for seed in range(24):
            seen |= self.history(230 + seed, 1 + seed % 4, 70)
        self.assertTrue(seen >= {
            type(None), (UnknownName, ""), (Refused, "false"), (Refused, "broken"), (Refused, "taken"), (NothingToUndo, "")}, seen)

    def test_a_new_desk(self):
        for letters in range(1, 9):
            desk = Desk(letters)
            self.assertEqual([desk.letters, desk.lots, desk.sayings, desk.past, len(desk), list(desk)], [letters, {}, (), 0, 0, []])
            self.assertEqual(str(desk), f"desk of {letters} letters: 0 lots, 0 sayings")
        self.refuses_numbers(Desk, 1, 8)
        for name in ("letters", "lots", "sayings", "past"):
            with self.assertRaises(AttributeError):
                setattr(Desk(2), name, 5)

    def test_nothing_is_shared(self):
        desk = Desk(4)
        desk.do(("put", "b", EDGES), ("put", "a", RING))
        desk.lots.clear()
        lots = desk.lots
        lots["c"] = EDGES
        self.assertEqual(desk.lots, {"a": RING, "b": EDGES})
        desk.do(("take", "a"))
        self.assertEqual(lots, {"a": RING, "b": EDGES, "c": EDGES})

    def test_names(self):
        desk = Desk(4)
        for name in GOOD:
            desk.do(("put", name, EDGES))
            self.assertIs(name in desk, True)
            self.assertEqual(desk[name], EDGES)
        self.assertEqual(list(desk), sorted(GOOD))
        self.assertEqual(list(desk.lots), sorted(GOOD))
        for value in NO_NAMES + ("b", "aa"):
            self.assertIs(value in desk, False)
            self.raises(UnknownName(value), lambda: desk[value])

    def test_wrong_deeds(self):
        desk = Desk(4)
        desk.do(("put", "a", EDGES), ("put", "b", RING))
        products = tuple(value for value in NO_PRODUCTS if value != (1,) * 9) + ((1, 1, 1), (1,) * 5, (9, 0, 0, 0), (0, 0, 0, 60))
        wrong = [None, True, 0, LONGER, "", "put", (), ("put",), ("a",), [], ["take", "a"], {}, NESTED, EDGES, ("take", "a", "a"),
                 ("put", "a"), ("put", "a", EDGES, 1), ("add", "a"), ("add", "a", (0,) * 4, 1), ("join", "a", "b"),
                 ("join", "a", "b", "a", "b"), ("meet", "a"), ("quotient", "a"), ("quotient", "a", (0,) * 4, ()),
                 ("Put", "a", EDGES), ("", "a"), (None, "a"), (True, "a", EDGES), ("undo", "a"), ("power", "a", 2), (("take",), "a"),
                 (EDGES, "a"), (["take"], "a"), ("sum", "a", "a", "b"), ("in", "a", (0,) * 4)]
        wrong += [("put", name, EDGES) for name in NO_NAMES] + [("take", name) for name in NO_NAMES]
        wrong += [(word, name, (0,) * 4) for word in ("add", "quotient") for name in NO_NAMES]
        for word in ("join", "meet"):
            for name in NO_NAMES:
                wrong += [(word, name, "a", "b"), (word, "a", name, "b"), (word, "a", "b", name)]
        wrong += [(word, "a", value) for word in ("add", "quotient") for value in products]
        wrong += [("put", "a", value) for value in (None, 0, "(x1)", (), EDGES.members, [EDGES], SQUARES, Lot(5, ()), desk, Table({}))]
        before = desk.twin()
        for deed in wrong:
            self.raises(InvalidOperation, desk.do, deed)
            # Behind a deed that cannot be done, and ahead of one, it comes first.
            self.raises(InvalidOperation, desk.do, ("take", "nothing"), deed)
            self.raises(InvalidOperation, desk.do, deed, ("take", "nothing"))
            self.assertTrue(desk == before and desk.past == 1)

    def test_names_that_stand_for_nothing(self):
        desk = Desk(4)
        desk.do(("put", "a", EDGES))
        for deed, name in ((("take", "b"), "b"), (("add", "b", (0,) * 4), "b"), (("quotient", "c", (0,) * 4), "c"),
                           (("join", "z", "b", "c"), "b"), (("join", "z", "a", "c"), "c"), (("meet", "a", "b", "a"), "b"),
                           (("meet", "a", "a", "b"), "b"), (("join", "b", "b", "a"), "b")):
            self.raises(UnknownName(name), desk.do, deed)
            self.raises(UnknownName(name), desk.do, ("add", "a", (1, 0, 0, 0)), deed)
            self.assertEqual([desk["a"], desk.past], [EDGES, 1])
        # At this time: behind the deeds ahead.
        self.raises(UnknownName("a"), desk.do, ("take", "a"), ("add", "a", (0,) * 4))
        self.raises(UnknownName("b"), desk.do, ("add", "b", (0,) * 4), ("put", "b", EDGES))
        desk.do(("put", "b", RING), ("join", "c", "a", "b"), ("take", "b"), ("meet", "c", "c", "a"))
        self.assertEqual(desk.lots, {"a": EDGES, "c": (EDGES + RING).meet(EDGES)})

    def test_what_deeds_make(self):
        desk = Desk(4)
        desk.do(("put", "a", EDGES), ("put", "b", RING), ("join", "j", "a", "b"), ("meet", "m", "a", "b"),
                ("put", "q", EDGES), ("quotient", "q", (0, 1, 0, 0)), ("put", "p", EDGES), ("add", "p", (0, 1, 0, 0)))
        self.assertEqual(desk.lots, {"a": EDGES, "b": RING, "j": EDGES + RING, "m": EDGES.meet(RING), "p": EDGES + Lot(
            4, ((0, 1, 0, 0),)), "q": EDGES.quotient((0, 1, 0, 0))})
        self.assertEqual(desk.past, 1)
        desk.do(("join", "a", "a", "a"), ("meet", "b", "b", "b"), ("put", "new", ALL), ("meet", "new", "new", "a"))
        self.assertEqual([desk["a"], desk["b"], desk["new"]], [EDGES, RING, EDGES])
        desk.do(("put", "a", EMPTY), ("add", "a", (8, 8, 8, 8)), ("quotient", "a", (8, 8, 8, 7)))
        self.assertEqual(desk["a"].members, ((0, 0, 0, 1),))
        desk.do(("quotient", "a", (0, 0, 0, 1)))
        self.assertEqual(desk["a"], ALL)

    def test_great_lots(self):
        desk = Desk(4)
        desk.do(("put", "a", STAIR), ("put", "b", OTHER))
        before = desk.twin()
        self.raises(Refused(("great", 0)), desk.do, ("meet", "c", "a", "b"))
        self.raises(Refused(("great", 1)), desk.do, ("add", "a", (0, 0, 0, 7)), ("meet", "c", "a", "b"), ("take", "nothing"))
        self.raises(UnknownName("x"), desk.do, ("take", "x"), ("meet", "c", "a", "b"))
        self.assertTrue(desk == before and desk.past == 1)
        full = Lot(4, tuple((a, b, 6 - a - b, 0) for a in range(7) for b in range(7 - a))[:24])
        self.assertEqual(len(full), 24)
        desk.do(("put", "f", full), ("add", "f", full.members[5][:3] + (1,)), ("join", "f", "f", "f"), ("quotient", "f", (0, 0, 0, 8)))
        desk.do(("put", "n", Lot(4, full.members[:23])), ("add", "n", full.members[23]))
        self.assertEqual([desk["f"], desk["n"]], [full, full])
        self.raises(Refused(("great", 0)), desk.do, ("add", "f", (0, 0, 0, 1)))
        self.raises(Refused(("great", 0)), desk.do, ("join", "g", "f", "b"))
        desk.do(("add", "f", (0, 0, 1, 0)))
        self.assertLess(len(desk["f"]), 24)
        # More than 24 on the way are refused, whatever comes behind; and what is great comes ahead of the sayings.
        desk.say(("in", "a", (6, 0, 0, 0)))
        self.raises(Refused(("great", 1)), desk.do, ("put", "a", STAIR), ("meet", "c", "a", "b"), ("take", "a"), ("take", "c"))
        self.raises(Refused(("great", 0)), desk.do, ("meet", "a", "a", "b"))

    def test_powers(self):
        """Lots with exponents above 8 can be put, too."""
        desk = Desk(2)
        great = SQUARES.power(4)
        desk.do(("put", "a", great), ("add", "a", (8, 0)), ("quotient", "a", (0, 8)))
        self.assertEqual(desk["a"], great.quotient((0, 8)))

    def test_sayings_that_are_taken_and_broken(self):
        desk = Desk(4)
        desk.do(("put", "a", EDGES), ("put", "b", EDGES), ("put", "c", RING))
        said = [("in", "a", (1, 1, 0, 0)), ("left", "a", (1, 0, 0, 1)), ("within", "a", "b"), ("dimension", "c", 2), ("straight", "b", 0)]
        for saying in said:
            desk.say(saying)
        for deeds, reason in (
                ([("take", "b")], ("taken", said[2])), ([("take", "c")], ("taken", said[3])),
                ([("take", "c"), ("take", "b")], ("taken", said[2])), ([("take", "a"), ("put", "a", EMPTY)], ("broken", said[0])),
                ([("put", "a", EMPTY), ("take", "c")], ("taken", said[3])), ([("put", "a", ALL)], ("broken", said[1])),
                ([("put", "b", EMPTY)], ("broken", said[2])), ([("put", "c", EMPTY)], ("broken", said[3])),
                ([("put", "b", ALL)], ("broken", said[4])), ([("put", "c", ALL), ("put", "a", ALL)], ("broken", said[1]))):
            before = desk.twin()
            self.raises(Refused(reason), desk.do, *deeds)
            self.assertTrue(desk == before and desk.past == before.past)
        # Sayings are asked behind the last deed alone.
        desk.do(("take", "a"), ("take", "b"), ("take", "c"), ("put", "c", RING), ("put", "b", EDGES), ("put", "a", EDGES), ("take", "c"),
                ("put", "c", EDGES))
        self.assertEqual([desk.sayings, desk["c"]], [tuple(said), EDGES])

    def test_each_sort_of_saying(self):
        desk = Desk(4)
        desk.do(("put", "a", EDGES), ("put", "b", EDGES + RING), ("put", "s", closing(4, ((0, 1, 1, 0),), strong=True)),
                ("put", "e", EMPTY), ("put", "u", ALL))
        true = [("in", "a", (1, 1, 0, 0)), ("in", "a", (60, 60, 60, 60)), ("left", "a", (60, 0, 0, 60)), ("left", "e", (0,) * 4),
                ("in", "u", (0,) * 4), ("within", "a", "b"), ("within", "a", "a"), ("within", "e", "a"), ("within", "b", "u"),
                ("straight", "a", 0), ("straight", "a", 97), ("stable", "s"), ("stable", "e"), ("stable", "u"), ("dimension", "a", 2),
                ("dimension", "u", -1), ("dimension", "e", 4), ("table", "a", 2, table_of(EDGES)), ("table", "u", 0, Table({})),
                ("table", "e", 3, Table({(0, 0): 1}))]
        false = [("in", "a", (60, 0, 0, 60)), ("left", "a", (1, 1, 0, 0)), ("within", "b", "a"), ("within", "u", "b"), ("straight", "e", 0),
                 ("straight", "u", 0), ("stable", "a"), ("dimension", "a", 3), ("dimension", "a", SIXTY), ("dimension", "a", -SIXTY),
                 ("table", "a", 0, Table({})), ("table", "u", 0, Table({(0, 0): 1})), ("table", "a", 0, table_of(EDGES).times(1, 2))]
        for saying in false:
            self.assertIs(desk.is_true(saying), False)
            self.raises(Refused(("false",)), desk.say, saying)
        for count, saying in enumerate(true):
            self.assertIs(desk.is_true(saying), True)
            self.assertIsNone(desk.say(saying))
            self.assertEqual([desk.sayings, desk.past], [tuple(true[:count + 1]), count + 2])

    def test_fields(self):
        half = Lot(6, tuple(tuple(int(at in chosen) for at in range(6)) for chosen in (
            (0, 1, 3), (0, 1, 4), (0, 2, 4), (0, 2, 5), (0, 3, 5), (1, 2, 3), (1, 2, 5), (1, 4, 5), (2, 3, 4), (3, 4, 5))))
        desk = Desk(6)
        desk.do(("put", "h", half))
        self.assertEqual([desk.is_true(("straight", "h", prime)) for prime in (0, 2, 3)], [True, False, True])
        self.assertEqual([desk.is_true(("table", "h", prime, table_of(half))) for prime in (0, 2, 3)], [True, False, True])

    def test_refused_tables(self):
        great = Lot(8, ABOVE[32])
        self.raises(TooMany(8000), table_of, great)
        # One member of degree 1 for each letter is straight, but its table is too much work.
        line = Lot(8, tuple(tuple(int(at == k) for at in range(8)) for k in range(8)))
        self.raises(TooMany(8000), is_straight, line)
        desk = Desk(8)
        desk.do(("put", "g", great), ("put", "l", line))
        for saying in (("straight", "g", 0), ("straight", "l", 0), ("straight", "l", 2), ("table", "g", 0, Table({})),
                       ("table", "l", 5, Table({(0, 0): 1}))):
            self.assertIs(desk.is_true(saying), False)
            self.raises(Refused(("false",)), desk.say, saying)
        desk.do(("put", "l", Lot(8, line.members[:4])))
        desk.say(("straight", "l", 0))
        self.raises(Refused(("broken", ("straight", "l", 0))), desk.do, ("put", "l", line))

    def test_wrong_sayings(self):
        desk = Desk(4)
        desk.do(("put", "a", EDGES))
        table = table_of(EDGES)
        wrong = [None, True, 0, LONGER, "", "stable", (), ("stable",), ("a",), [], ["stable", "a"], {}, NESTED, EDGES, ("stable", "a", 0),
                 ("in", "a"), ("in", "a", (0,) * 4, 0), ("left", "a"), ("within", "a"), ("within", "a", "a", "a"), ("straight", "a"),
                 ("straight", "a", 0, 0), ("dimension", "a"), ("dimension", "a", 2, 2), ("table", "a", 0), ("table", "a", table),
                 ("table", "a", 0, table, 0), ("Stable", "a"), ("", "a"), (None, "a"), (True, "a"), ("true", "a"), ("put", "a", EDGES),
                 (("stable",), "a"), (EDGES, "a"), (["in"], "a", (0,) * 4), ("size", "a", 2), (None, "a", 2), ("depth", "a", 0)]
        wrong += [("stable", name) for name in NO_NAMES] + [("within", name, "a") for name in NO_NAMES]
        wrong += [("within", "a", name) for name in NO_NAMES] + [("dimension", "a", value) for value in NO_INTEGERS]
        wrong += [("straight", "a", value) for value in NO_FIELDS] + [("table", "a", value, table) for value in NO_FIELDS]
        wrong += [("table", "a", 0, value) for value in (None, 0, "0", {}, {(0, 0): 1}, str(table), EDGES)]
        wrong += [(word, "a", value) for word in ("in", "left") for value in NO_PRODUCTS + ((1, 1, 1), (1,) * 5)]
        for saying in wrong:
            self.raises(InvalidOperation, desk.say, saying)
            self.raises(UnknownName(saying), desk.unsay, saying)
            self.assertIs(desk.is_true(saying), False)
        self.assertEqual([desk.sayings, desk.past], [(), 1])

    def test_names_of_sayings(self):
        desk = Desk(4)
        desk.do(("put", "a", EDGES))
        for saying, name in ((("stable", "b"), "b"), (("within", "b", "c"), "b"), (("within", "a", "c"), "c"), (("within", "b", "a"), "b"),
                             (("in", "b", (0,) * 4), "b"), (("table", "b", 0, Table({})), "b"), (("dimension", "abcdefgh", 0), "abcdefgh")):
            self.raises(UnknownName(name), desk.say, saying)
            self.assertIs(desk.is_true(saying), False)
            self.raises(UnknownName(saying), desk.unsay, saying)

    def test_sayings_said_twice(self):
        desk = Desk(4)
        desk.do(("put", "a", EDGES))
        desk.say(("dimension", "a", 2))
        desk.say(("table", "a", 0, table_of(EDGES)))
        self.assertEqual(desk.past, 3)
        desk.say(("dimension", "a", 2))
        desk.say(("table", "a", 0, Table({(2, 3): 2, (1, 2): 3, (0, 0): 1})))
        self.assertEqual([desk.past, len(desk.sayings)], [3, 2])
        desk.do(("put", "b", closing(4, ((0, 0, 0, 1),))))
        desk.say(("dimension", "b", 0))
        desk.say(("stable", "b"))
        for saying in (("dimension", "b", False), ["dimension", "b", 0], ("dimension", "b", 1)):
            self.raises(UnknownName(saying), desk.unsay, saying)
        desk.unsay(("table", "a", 0, Table({(0, 0): 2, (1, 2): 6, (2, 3): 4}, 2)))
        desk.unsay(("dimension", "b", 0))
        self.assertEqual([desk.sayings, desk.past], [(("dimension", "a", 2), ("stable", "b")), 8])
        self.raises(UnknownName(("dimension", "b", 0)), desk.unsay, ("dimension", "b", 0))

    def test_how_many_sayings(self):
        desk = Desk(4)
        desk.do(("put", "a", EDGES), ("put", "b", EDGES))
        said = [("in", "a", (1, 1, at, 0)) for at in range(20)]
        for saying in said:
            desk.say(saying)
        self.assertEqual(len(desk.sayings), 20)
        for saying in said:
            desk.say(saying)
        self.assertEqual([desk.sayings, desk.past], [tuple(said), 21])
        self.raises(TooMany(20), desk.say, ("in", "a", (1, 1, 20, 0)))
        # Ahead of what is false, behind what is unknown and what is no saying.
        self.raises(TooMany(20), desk.say, ("stable", "a"))
        self.raises(UnknownName("c"), desk.say, ("stable", "c"))
        self.raises(InvalidOperation, desk.say, ("stable", "C"))
        desk.unsay(said[3])
        self.raises(Refused(("false",)), desk.say, ("stable", "a"))
        desk.say(("in", "b", (1, 1, 20, 0)))
        self.assertEqual(desk.sayings, tuple(said[:3] + said[4:] + [("in", "b", (1, 1, 20, 0))]))

    def test_what_is_no_move(self):
        desk = Desk(4)
        self.assertIsNone(desk.do())
        desk.do(("put", "a", EDGES), ("take", "a"))
        self.assertEqual([desk.past, desk.lots], [0, {}])
        desk.do(("put", "a", EDGES))
        desk.do(("put", "a", Lot(4, EDGES.members)))
        desk.do(("add", "a", (1, 1, 1, 1)))
        desk.do(("join", "a", "a", "a"), ("quotient", "a", (0,) * 4))
        desk.do(("put", "b", RING), ("take", "b"))
        desk.do(("take", "a"), ("put", "a", EDGES))
        self.assertEqual(desk.past, 1)
        desk.undo()
        self.assertEqual([desk.past, desk.lots], [0, {}])

    def test_moves_taken_back(self):
        desk, states = Desk(4), []
        calls = [(desk.do, ("put", "a", EDGES)), (desk.say, ("dimension", "a", 2)), (desk.do, ("put", "b", RING), ("join", "a", "a", "b")),
                 (desk.unsay, ("dimension", "a", 2)), (desk.do, ("take", "a")), (desk.say, ("left", "b", (1, 1, 0, 0)))]
        for call, *args in calls:
            states.append(desk.twin())
            call(*args)
        self.assertEqual(desk.past, 6)
        for steps in (1, 2, 3, 4, 5, 6):
            twin = desk.twin()
            self.assertIsNone(twin.undo(steps))
            self.assertTrue(twin == states[-steps])
            self.assertEqual(twin.past, 6 - steps)
        for steps in (7, 8, SIXTY):
            self.raises(NothingToUndo(steps), desk.undo, steps)
        for steps in NO_INTEGERS + (0, -1):
            self.raises(InvalidNumber(steps), desk.undo, steps)
            self.raises(InvalidNumber(steps), Desk(1).undo, steps)
        self.assertEqual(desk.past, 6)
        for state in reversed(states):
            desk.undo()
            self.assertTrue(desk == state)
        self.raises(NothingToUndo(1), desk.undo)
        self.assertTrue(desk == Desk(4))

    def test_twins(self):
        desk = Desk(4)
        desk.do(("put", "a", EDGES))
        desk.say(("dimension", "a", 2))
        twin = desk.twin()
        self.assertIsInstance(twin, Desk)
        self.assertTrue(twin == desk and twin.past == 2)
        twin.do(("put", "b", RING))
        self.assertTrue(twin != desk and "b" not in desk and desk.past == 2)
        desk.undo(2)
        self.assertEqual([len(desk), len(twin), twin.sayings, twin.past], [0, 2, (("dimension", "a", 2),), 3])
        twin.undo(3)
        self.assertTrue(twin == desk)

    def test_equality(self):
        one, other = Desk(4), Desk(4)
        one.do(("put", "a", EDGES), ("put", "b", RING))
        other.do(("put", "b", RING))
        self.assertTrue(one != other)
        other.do(("put", "a", Lot(4, EDGES.members[::-1])))
        self.assertTrue(one == other and not one != other)
        one.say(("dimension", "a", 2))
        one.say(("dimension", "b", 2))
        other.say(("dimension", "b", 2))
        self.assertFalse(one == other)
        other.say(("dimension", "a", 2))
        self.assertFalse(one == other)
        other.unsay(("dimension", "b", 2))
        other.say(("dimension", "b", 2))
        self.assertTrue(one == other)
        self.assertFalse(Desk(3) == Desk(4))
        for value in (None, True, 0, "", (), [], {}, {"a": EDGES}, NESTED, EDGES, one.lots, LONG, str(one), Family(4, ())):
            self.assertIs(one == value, False)
            self.assertIs(value == one, False)
            self.assertIs(one != value, True)

    def test_what_breaks_no_saying(self):
        """[18.5]."""
        chance = Chance(260, 3)
        kinds = set()
        for _ in range(300):
            lots = [chance.lot(), chance.lot(), chance.lot()]
            desk = Desk(3)
            desk.do(*[("put", name, lot) for name, lot in zip("abc", lots)])
            product, other = chance.product(3), chance.product(3)
            deed = (chance.chance.choice(("add", "quotient")), "a", product)
            for saying in (("in", "a", other), ("within", "b", "a")):
                if desk.is_true(saying):
                    desk.say(saying)
                    desk.do(deed)
                    kinds.add((saying[0], deed[0]))
                    desk.undo(desk.past - 1)
            if desk.is_true(("within", "a", "b")):
                desk.say(("within", "a", "b"))
                desk.do(("quotient", "a", product), ("quotient", "b", product))
                kinds.add("both")
        self.assertEqual(kinds, {("in", "add"), ("in", "quotient"), ("within", "add"), ("within", "quotient"), "both"})


if __name__ == "__main__":
    unittest.main()
