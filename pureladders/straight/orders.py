"""Straight lots, and orders of least members with quotients by letters."""

from pureladders.base.ranks import check_field
from pureladders.errors import InvalidOperation, TooMany
from pureladders.lot.exponents import are_exponents, taken_off
from pureladders.lot.lots import check_lot
from pureladders.lot.members import least_of
from pureladders.lot.products import MAX_EXPONENT
from pureladders.part.parts import table_of
from pureladders.table.tables import choice_places, table_of_counts

MAX_ORDERED = 8


def check_members(lot):
    """Refuse all but the lots with least members, none of degree 0."""
    check_lot(lot)
    if lot.is_all or not lot.members:
        raise InvalidOperation("no least members, or one of degree 0")


def is_straight(lot, prime=0):
    """Whether all least members have one degree, and no place of the table is out of the line that begins there."""
    return straight_bar(lot, prime) is None


def straight_bar(lot, prime=0):
    """What shows that the lot is not straight over the field; None if it is."""
    check_members(lot)
    check_field(prime)
    low, high = lot.degrees[0], lot.degrees[-1]
    if low != high:
        return ("degrees", low, high)
    for step, degree in table_of(lot, prime).entries:
        if step >= 1 and degree != low + step - 1:
            return ("place", step, degree)
    return None


def quotient_set(ahead, member):
    """The letters that are the least members of the quotient of the lot of those ahead; None if there are others."""
    least = least_of([taken_off(product, member) for product in ahead])
    if any([sum(product) != 1 for product in least]):
        return None
    return tuple(sorted([product.index(1) for product in least]))


def quotient_sets(order):
    """The list of the quotient letters of all members of an order, with None where there are none."""
    return [quotient_set(order[:at], member) for at, member in enumerate(order)]


def letter_order(lot):
    """Any tuple of the least members whose quotients by those ahead have letters alone; None if there is none."""
    check_members(lot)
    if len(lot) > MAX_ORDERED:
        raise TooMany(MAX_ORDERED)
    # Whether a member can be the next one depends on the set of those ahead alone.
    reached = {(): ()}
    for _ in range(len(lot)):
        reached = longer_orders(reached, lot.members)
    orders = list(reached.values())
    return orders[0] if orders else None


def longer_orders(orders, members):
    """The dict from the sets with one index more than those of `orders` to an order of each."""
    found = {}
    for chosen in orders:
        for at, member in enumerate(members):
            if at not in chosen and quotient_set(orders[chosen], member) is not None:
                found[tuple(sorted(chosen + (at,)))] = orders[chosen] + (member,)
    return found


def is_letter_order(lot, value):
    """Whether the value is a letter order of the lot."""
    check_members(lot)
    return is_order(lot, value)


def is_order(lot, value):
    """Whether the value is a tuple of all least members of which each quotient has letters alone."""
    if not isinstance(value, tuple) or not all([are_exponents(one, lot.letters, MAX_EXPONENT) for one in value]):
        return False
    return tuple(sorted(value)) == lot.members and None not in quotient_sets(value)


def check_order(lot, order):
    """Refuse all but the letter orders of the lot."""
    if not is_order(lot, order):
        raise InvalidOperation("no letter order of the lot")


def quotient_letters(lot, order):
    """The tuple of the quotient letters of all members of the order."""
    check_members(lot)
    check_order(lot, order)
    return tuple(quotient_sets(order))


def table_by_order(lot, order):
    """The table of a lot, told by a letter order along which the degrees do not fall."""
    check_members(lot)
    check_order(lot, order)
    degrees = [sum(member) for member in order]
    if degrees != sorted(degrees):
        raise InvalidOperation("the degrees fall along the order")
    counts = [(degree, len(letters)) for degree, letters in zip(degrees, quotient_sets(order))]
    return table_of_counts([((0, 0), 1)] + choice_places(counts))
