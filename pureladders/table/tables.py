"""Tables: fractions at places (step, degree), other than 0 at finitely many of them."""

from math import lcm

from pureladders.base.checks import check_passed, check_within, is_passed, is_within
from pureladders.base.integers import choices, greatest_divisor
from pureladders.base.ratios import lowest_pair
from pureladders.errors import InvalidNumber, InvalidTable, ParseError
from pureladders.table.words import table_text, told_fractions

MAX_STEP = 8
MAX_PLACE = 480


class Table:
    """The integers of a dict from places, divided by an integer. It never changes."""

    def __init__(self, entries, bottom=1):
        if not is_entries(entries):
            raise InvalidTable("no dict from places to integers")
        check_bottom(bottom)
        self._entries, self._bottom = lowest(entries, bottom)

    @classmethod
    def read(cls, text):
        """The table whose `str` the text is."""
        fractions = told_fractions(text) if isinstance(text, str) else None
        if fractions is None or not all([is_place(place) for place in fractions]):
            raise ParseError(0)
        bottom = 1
        for place in fractions:
            bottom = lcm(bottom, fractions[place][1])
        table = made_table({place: told_entry(fractions[place], bottom) for place in fractions}, bottom)
        if str(table) != text:
            raise ParseError(0)
        return table

    @property
    def entries(self):
        """The dict from places to the integers other than 0, in lowest terms with the bottom."""
        return {place: self._entries[place] for place in self._entries}

    @property
    def bottom(self):
        """The integer above 0 that the entries are divided by."""
        return self._bottom

    @property
    def end(self):
        """The greatest step with a fraction other than 0; -1 if there is none."""
        return max([step for step, _ in self._entries], default=-1)

    def at(self, step, degree):
        """The fraction at a place."""
        check_within(step, 0, MAX_STEP)
        check_within(degree, 0, MAX_PLACE)
        return lowest_pair(self._entries.get((step, degree), 0), self._bottom)

    def times(self, top, bottom=1):
        """The table multiplied by top / bottom."""
        check_passed(top)
        check_bottom(bottom)
        return made_table(scaled(self._entries, top), self._bottom * bottom)

    def __add__(self, other):
        if not isinstance(other, Table):
            return NotImplemented
        return sum_of(self, other, 1)

    def __sub__(self, other):
        if not isinstance(other, Table):
            return NotImplemented
        return sum_of(self, other, -1)

    def __neg__(self):
        return made_table(scaled(self._entries, -1), self._bottom)

    def __eq__(self, other):
        return isinstance(other, Table) and self._entries == other._entries and self._bottom == other._bottom

    def __bool__(self):
        return bool(self._entries)

    def __str__(self):
        return str(table_text(self._entries, self._bottom))


def is_place(value):
    """Whether the value is a pair (step, degree) within the bounds."""
    if not isinstance(value, tuple) or len(value) != 2:
        return False
    return is_within(value[0], 0, MAX_STEP) and is_within(value[1], 0, MAX_PLACE)


def is_entries(value):
    """Whether the value is a dict from places to integers of at most sixty digits."""
    return isinstance(value, dict) and all([is_place(place) and is_passed(value[place]) for place in value])


def check_bottom(value):
    """Refuse all but the integers other than 0."""
    if not is_passed(value) or value == 0:
        raise InvalidNumber(value)


def made_table(entries, bottom):
    """The table with integers of any length."""
    table = Table({})
    found = lowest(entries, bottom)
    table._entries = found[0]
    table._bottom = found[1]
    return table


def check_table(value):
    """Refuse all but the tables."""
    if not isinstance(value, Table):
        raise InvalidTable("no table")


def fractions_of(table):
    """The dict from the places of a table to its fractions other than 0, ascending."""
    entries, bottom = table.entries, table.bottom
    return {place: lowest_pair(entries[place], bottom) for place in entries}


def table_of_fractions(fractions):
    """The table of a dict from places to fractions, with integers of any length.

    Fractions in lowest terms that are brought to their least common bottom are
    in lowest terms together: so long integers need no common divisor here.
    """
    bottom = 1
    for place in fractions:
        bottom = lcm(bottom, fractions[place][1])
    kept = [place for place in sorted(fractions) if fractions[place][0] != 0]
    table = Table({})
    table._entries = {place: told_entry(fractions[place], bottom) for place in kept}
    table._bottom = bottom
    return table


def table_of_counts(counts):
    """The table of a list of pairs of a place and a number; numbers of one place are added up."""
    entries = {}
    for place, number in counts:
        entries[place] = entries.get(place, 0) + number
    return Table(entries)


def choice_places(counts):
    """The list of the pairs of a place and a number that the degrees of members, each with a count, tell.

    A member has at the step i as many rungs as there are choices of i - 1 things
    out of so many, and i - 1 degrees behind its own.
    """
    return [((step + 1, degree + step), choices(many, step)) for degree, many in counts for step in range(many + 1)]


def lowest(entries, bottom):
    """The entries other than 0, ascending, and the bottom, above 0, without a common divisor."""
    divisor = greatest_divisor([bottom] + list(entries.values()))
    if bottom < 0:
        divisor = -divisor
    kept = [place for place in sorted(entries) if entries[place] != 0]
    return {place: entries[place] // divisor for place in kept}, bottom // divisor


def scaled(entries, number):
    """The entries multiplied by an integer."""
    return {place: entries[place] * number for place in entries}


def sum_of(one, other, sign):
    """The first table, and the second one multiplied by the sign, added up."""
    over, under = one.entries, other.entries
    found = {place: over[place] * other.bottom for place in over}
    for place in under:
        found[place] = found.get(place, 0) + sign * under[place] * one.bottom
    return made_table(found, one.bottom * other.bottom)


def told_entry(pair, bottom):
    """The integer above the bottom that makes the fraction."""
    return pair[0] * (bottom // pair[1])
