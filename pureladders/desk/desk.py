"""A desk: lots by names, and sayings about them that are true at every time."""

from pureladders.base.checks import check_within, is_passed
from pureladders.base.ranks import is_field
from pureladders.desk.deeds import lots_after
from pureladders.desk.truths import holds, names_of
from pureladders.errors import InvalidNumber, InvalidOperation, NothingToUndo, Refused, TooMany, UnknownName
from pureladders.lot.exponents import are_exponents
from pureladders.lot.lots import MAX_MEMBER_EXPONENT, Lot
from pureladders.lot.products import MAX_EXPONENT, MAX_LETTERS
from pureladders.table.tables import Table

MAX_NAME = 8
MAX_SAID = 20
NAME_LETTERS = "abcdefghijklmnopqrstuvwxyz"


class Desk:
    """Lots in so many letters by their names, and true sayings. Moves can be taken back."""

    def __init__(self, letters):
        check_within(letters, 1, MAX_LETTERS)
        self._letters = letters
        # None of these is ever changed: each move puts new ones in their places.
        self._lots = {}
        self._sayings = ()
        self._moves = ()

    @property
    def letters(self):
        """How many letters all lots have."""
        return self._letters

    @property
    def lots(self):
        """The dict from the names, ascending, to the lots."""
        return {name: self._lots[name] for name in self._lots}

    @property
    def sayings(self):
        """The tuple of the sayings, in the order in which they were said."""
        return self._sayings

    @property
    def past(self):
        """How many moves can be taken back."""
        return len(self._moves)

    def do(self, *deeds):
        """Do the deeds, one after the other; the sayings have to be true behind the last one."""
        for deed in deeds:
            if not is_deed(deed, self._letters):
                raise InvalidOperation("no deed")
        lots = self._lots
        for at, deed in enumerate(deeds):
            lots = lots_after(lots, deed, at)
        check_sayings(self._sayings, self._lots, lots)
        if lots != self._lots:
            self._move(lots, self._sayings)

    def say(self, saying):
        """Keep a true saying."""
        if not is_saying(saying, self._letters):
            raise InvalidOperation("no saying")
        for name in names_of(saying):
            if name not in self._lots:
                raise UnknownName(name)
        if saying in self._sayings:
            return
        if len(self._sayings) >= MAX_SAID:
            raise TooMany(MAX_SAID)
        if not holds(saying, self._lots):
            raise Refused(("false",))
        self._move(self._lots, self._sayings + (saying,))

    def unsay(self, saying):
        """Keep a saying no more."""
        # What is equal to a kept saying could have True in the place of 1.
        if not is_saying(saying, self._letters) or saying not in self._sayings:
            raise UnknownName(saying)
        self._move(self._lots, tuple([kept for kept in self._sayings if kept != saying]))

    def is_true(self, value):
        """Whether the value is a saying, with names of the desk, that is true now."""
        if not is_saying(value, self._letters) or not all([name in self._lots for name in names_of(value)]):
            return False
        return holds(value, self._lots)

    def undo(self, steps=1):
        """Take back the last moves."""
        if not is_passed(steps) or steps < 1:
            raise InvalidNumber(steps)
        if steps > len(self._moves):
            raise NothingToUndo(steps)
        self._lots, self._sayings = self._moves[-steps]
        self._moves = self._moves[:-steps]

    def twin(self):
        """Another desk with the same lots, sayings and moves."""
        other = Desk(self._letters)
        other._lots = self._lots
        other._sayings = self._sayings
        other._moves = self._moves
        return other

    def _move(self, lots, sayings):
        """Put other lots and sayings in the places of those of now, which can be taken back."""
        self._moves = self._moves + ((self._lots, self._sayings),)
        self._lots = lots
        self._sayings = sayings

    def __contains__(self, value):
        return isinstance(value, str) and value in self._lots

    def __getitem__(self, name):
        if name not in self:
            raise UnknownName(name)
        return self._lots[name]

    def __len__(self):
        return len(self._lots)

    def __iter__(self):
        return iter(self._lots)

    def __eq__(self, other):
        if not isinstance(other, Desk):
            return False
        return self._letters == other._letters and self._lots == other._lots and self._sayings == other._sayings

    def __str__(self):
        return f"desk of {self._letters} letters: {len(self._lots)} lots, {len(self._sayings)} sayings"


def is_name(value):
    """Whether the value is a string of one to eight letters a to z."""
    if not isinstance(value, str) or not 1 <= len(value) <= MAX_NAME:
        return False
    return all([letter in NAME_LETTERS for letter in value])


def is_named(value):
    """Whether the value is a tuple of anything, of a name, and perhaps of more."""
    return isinstance(value, tuple) and len(value) >= 2 and is_name(value[1])


def is_saying(value, letters):
    """Whether the value has the form of a saying about lots in so many letters."""
    if not is_named(value):
        return False
    word, rest = value[0], value[2:]
    if word == "stable":
        return not rest
    if word == "table":
        return len(rest) == 2 and is_field(rest[0]) and isinstance(rest[1], Table)
    if len(rest) != 1:
        return False
    if word in ("in", "left"):
        return are_exponents(rest[0], letters, MAX_EXPONENT)
    if word == "within":
        return is_name(rest[0])
    if word == "straight":
        return is_field(rest[0])
    return word == "dimension" and is_passed(rest[0])


def is_deed(value, letters):
    """Whether the value is a deed with lots and products in so many letters."""
    if not is_named(value):
        return False
    word, rest = value[0], value[2:]
    if word == "take":
        return not rest
    if word in ("join", "meet"):
        return len(rest) == 2 and is_name(rest[0]) and is_name(rest[1])
    if len(rest) != 1:
        return False
    if word == "put":
        return isinstance(rest[0], Lot) and rest[0].letters == letters
    return word in ("add", "quotient") and are_exponents(rest[0], letters, MAX_MEMBER_EXPONENT)


def check_sayings(sayings, before, after):
    """Refuse other lots by names that lack a name of a saying, or make one false."""
    for saying in sayings:
        if not all([name in after for name in names_of(saying)]):
            raise Refused(("taken", saying))
    for saying in sayings:
        # All sayings are true before: they stay true if their lots stay.
        changed = [name for name in names_of(saying) if before[name] != after[name]]
        if changed and not holds(saying, after):
            raise Refused(("broken", saying))
