"""Which sayings about the lots of a desk are true."""

from pureladders.lot.members import is_divided
from pureladders.part.parts import has_table, table_of
from pureladders.row.counts import dimension
from pureladders.stable.lots import is_strongly_stable
from pureladders.straight.orders import is_straight


def names_of(saying):
    """The list of the names in a saying."""
    return [saying[1], saying[2]] if saying[0] == "within" else [saying[1]]


def holds(saying, lots):
    """Whether a saying, whose names are all there, is true of the lots."""
    word, lot, rest = saying[0], lots[saying[1]], saying[2:]
    if word == "in":
        return rest[0] in lot
    if word == "left":
        return rest[0] not in lot
    if word == "within":
        others = lots[rest[0]].members
        return all([is_divided(member, others) for member in lot.members])
    if word == "stable":
        return is_strongly_stable(lot)
    if word == "dimension":
        return dimension(lot) == rest[0]
    # What is left is about the table, and a refused table makes it false.
    if not has_table(lot):
        return False
    if word == "straight":
        return bool(lot) and not lot.is_all and is_straight(lot, rest[0])
    return table_of(lot, rest[0]) == rest[1]
