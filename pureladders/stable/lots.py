"""Stable and strongly stable lots: closings, makers, and tables by last letters."""

from pureladders.base.checks import check_within, is_number
from pureladders.errors import InvalidOperation, InvalidProduct, Refused, TooMany
from pureladders.lot.exponents import are_exponents, fits, taken_off
from pureladders.lot.lots import MAX_MEMBERS, MAX_MEMBER_EXPONENT, check_lot, made_lot
from pureladders.lot.products import MAX_EXPONENT, MAX_LETTERS, check_product
from pureladders.stable.moves import closed_members, last_letter, leaving_moves, moved, moves_of
from pureladders.table.tables import Table, choice_places, table_of_counts


def is_stable(lot):
    """Whether no move from the last letter leads out of the lot."""
    check_lot(lot)
    return not leaving_moves(lot.members, False)


def is_strongly_stable(lot):
    """Whether no move leads out of the lot."""
    check_lot(lot)
    return not leaving_moves(lot.members, True)


def unstable(lot):
    """Any move (u, s, t) of a least member from its last letter out of the lot; None for a stable lot."""
    check_lot(lot)
    moves = leaving_moves(lot.members, False)
    return moves[0] if moves else None


def is_unstable(lot, value):
    """Whether the value is a move of a least member from its last letter out of the lot."""
    check_lot(lot)
    if not isinstance(value, tuple) or len(value) != 3:
        return False
    product, lower, letter = value
    # What is equal to a move could have True in the place of 1.
    if not are_exponents(product, lot.letters, MAX_EXPONENT) or not is_number(lower) or not is_number(letter):
        return False
    return value in leaving_moves(lot.members, False)


def check_stable(lot, strong):
    """Refuse the lots that moves leave."""
    if leaving_moves(lot.members, strong):
        raise Refused(("stable",))


def split(lot, product):
    """The only pair of a least member u and of the rest v, whose letters are not ahead of the last one of u."""
    check_lot(lot)
    check_product(product, lot.letters)
    if product not in lot:
        raise InvalidOperation("a product that the lot has not")
    check_stable(lot, False)
    pairs = [(member, taken_off(product, member)) for member in lot.members if fits(member, product)]
    pairs = [(member, rest) for member, rest in pairs if is_behind(rest, member)]
    return pairs[0]


def is_behind(rest, member):
    """Whether the rest has no letter ahead of the last one of the member."""
    return sum(member) == 0 or sum(rest[:last_letter(member)]) == 0


def closing(letters, products, *, strong=False):
    """The least stable, or strongly stable, lot that has all of the products."""
    check_within(letters, 1, MAX_LETTERS)
    if not are_given(products, letters):
        raise InvalidProduct("no tuple of at most 24 products in so many letters")
    if strong is not True and strong is not False:
        raise InvalidOperation("neither True nor False")
    # Moves make the power of x1 of each degree; the one of the least degree is a
    # least member, and no other member has a greater exponent of x1. The other
    # letters only lose to x1, and seven of them have at most 56 together.
    if min([sum(product) for product in products], default=0) > MAX_EXPONENT:
        raise TooMany(MAX_EXPONENT)
    members = closed_members(products, strong, MAX_MEMBERS)
    if len(members) > MAX_MEMBERS:
        raise TooMany(MAX_MEMBERS)
    return made_lot(letters, tuple(members))


def are_given(value, letters):
    """Whether the value is a tuple of at most 24 products with exponents to 8."""
    if not isinstance(value, tuple) or len(value) > MAX_MEMBERS:
        return False
    return all([are_exponents(product, letters, MAX_MEMBER_EXPONENT) for product in value])


def makers(lot):
    """The ascending tuple of the least members that the closing of the others does not have.

    The other least members make a product by moves alone if they make it at
    all, and what moves make of a product that is not least is not least. So it
    is enough to look at single moves of least members.
    """
    check_lot(lot)
    check_stable(lot, True)
    made = [moved(*move) for member in lot.members for move in moves_of(member, True)]
    return tuple([member for member in lot.members if member not in made])


def table_by_letters(lot):
    """The table of a stable lot, told by the last letters of its least members."""
    check_lot(lot)
    check_stable(lot, False)
    if lot.is_all:
        return Table({})
    counts = [(sum(member), last_letter(member)) for member in lot.members]
    return table_of_counts([((0, 0), 1)] + choice_places(counts))
