"""Texts of lots, families, tables and chains: one line for the sort, and one for each member, place or pair."""

from pureladders.base.integers import greatest_divisor
from pureladders.base.ratios import is_above_zero, is_short
from pureladders.errors import InvalidOperation, ParseError
from pureladders.family.families import MAX_CORNERS, Family
from pureladders.family.sets import is_inside, is_set
from pureladders.lot.exponents import are_exponents
from pureladders.lot.lots import MAX_MEMBERS, MAX_MEMBER_EXPONENT, Lot
from pureladders.lot.members import is_divided
from pureladders.lot.products import MAX_LETTERS
from pureladders.pure.chains import is_pair
from pureladders.pure.degrees import is_pure
from pureladders.table.tables import Table, is_place
from pureladders.text.lines import line_of, told_integer, told_numbers

MAX_PAIRS = 1000


def write(value):
    """The text of a lot, a family, a table, or of a tuple that has the form of a chain."""
    if isinstance(value, Lot):
        head, rows = f"lot {value.letters}", value.members
    elif isinstance(value, Family):
        head, rows = f"family {value.corners}", value.members
    elif isinstance(value, Table):
        entries = value.entries
        head, rows = f"table {value.bottom}", [place + (entries[place],) for place in entries]
    elif has_form_of_chain(value):
        head, rows = "chain", [fraction + degrees for degrees, fraction in value]
    else:
        raise InvalidOperation("no lot, family, table or chain")
    return "\n".join([head] + [line_of(row) for row in rows])


def has_form_of_chain(value):
    """Whether the value is a tuple of one to 1000 pairs of pure degrees and of a fraction above 0."""
    if not isinstance(value, tuple) or not 1 <= len(value) <= MAX_PAIRS:
        return False
    return all([is_pair(pair) and is_short(pair[1]) for pair in value])


def read(text):
    """The lot, family, table or chain that has this text."""
    if not isinstance(text, str):
        raise ParseError(None)
    head, *lines = text.split("\n")
    if head == "chain":
        return read_chain(lines)
    word, _, rest = head.partition(" ")
    number = told_integer(rest)
    if number is None or number < 1:
        raise ParseError(0)
    if word == "lot" and number <= MAX_LETTERS:
        return read_lot(number, lines)
    if word == "family" and number <= MAX_CORNERS:
        return read_family(number, lines)
    if word == "table":
        return read_table(number, lines)
    raise ParseError(0)


def read_lot(letters, lines):
    """The lot whose least members the lines tell."""
    members = []
    for at, line in enumerate(lines, start=1):
        product = told_numbers(line)
        if not are_exponents(product, letters, MAX_MEMBER_EXPONENT) or len(members) == MAX_MEMBERS:
            raise ParseError(at)
        if not is_ascending(members, product) or is_divided(product, members):
            raise ParseError(at)
        members.append(product)
    return Lot(letters, tuple(members))


def is_ascending(rows, row):
    """Whether the row is above the last one of those ahead, if there are any."""
    return not rows or rows[-1] < row


def read_family(corners, lines):
    """The family whose greatest members the lines tell."""
    members = []
    for at, line in enumerate(lines, start=1):
        chosen = told_numbers(line) if line else ()
        if not is_set(chosen, corners) or not is_ascending(members, chosen):
            raise ParseError(at)
        if any([is_inside(chosen, other) or is_inside(other, chosen) for other in members]):
            raise ParseError(at)
        members.append(chosen)
    return Family(corners, tuple(members))


def read_table(bottom, lines):
    """The table with the bottom and the integers of the lines."""
    places, entries = [], {}
    for at, line in enumerate(lines, start=1):
        numbers = told_numbers(line)
        if numbers is None or len(numbers) != 3 or numbers[2] == 0:
            raise ParseError(at)
        place = numbers[:2]
        if not is_place(place) or not is_ascending(places, place):
            raise ParseError(at)
        places.append(place)
        entries[place] = numbers[2]
    if greatest_divisor([bottom] + list(entries.values())) > 1:
        raise ParseError(len(lines))
    return Table(entries, bottom)


def read_chain(lines):
    """The tuple of the pairs that the lines tell."""
    if not lines:
        raise ParseError(0)
    pairs = []
    for at, line in enumerate(lines, start=1):
        numbers = told_numbers(line)
        if numbers is None or not is_above_zero(numbers[:2]) or not is_pure(numbers[2:]) or at > MAX_PAIRS:
            raise ParseError(at)
        pairs.append((numbers[2:], numbers[:2]))
    return tuple(pairs)
