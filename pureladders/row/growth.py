"""How the counts of a lot grow, and the first lots of rows of counts."""

from pureladders.base.checks import check_within, is_passed
from pureladders.errors import InvalidOperation, InvalidRow, Refused, TooMany
from pureladders.lot.exponents import nothing
from pureladders.lot.lots import MAX_MEMBERS, MAX_MEMBER_EXPONENT, check_lot, made_lot
from pureladders.lot.products import MAX_LETTERS, check_any_product, following
from pureladders.row.counts import MOST_FAR, left_number
from pureladders.row.series import series_of
from pureladders.row.shares import bound_of, first_wrong, most_at, number_of_products, shares_of

MAX_DEGREE = 60
MAX_TOLD = 1000
MAX_ROW = 7
MOST_FIRST_LETTERS = 4
MOST_IN_ROW = 40


def word_place(product):
    """How many products of the same degree stand ahead of the product in the order of words."""
    check_any_product(product)
    ahead = 0
    for index, exponent in enumerate(product):
        rest = product[index:]
        ahead += number_of_products(len(rest), sum(rest) - exponent - 1)
    return ahead


def product_at(letters, degree, place):
    """The product of the degree with this word place."""
    check_within(letters, 1, MAX_LETTERS)
    check_within(degree, 0, MAX_DEGREE)
    check_within(place, 0, number_of_products(letters, degree) - 1)
    return told_product(letters, degree, place)


def told_product(letters, degree, place):
    """The product of the degree with this word place, without a check."""
    exponents = []
    for behind in reversed(range(letters)):
        exponent = degree
        # Here `place` is that among the products with at most this exponent.
        while behind and place >= number_of_products(behind, degree - exponent):
            place -= number_of_products(behind, degree - exponent)
            exponent -= 1
        exponents.append(exponent)
        degree -= exponent
    return tuple(exponents)


def first_products(letters, degree, many):
    """The tuple of the first products of the degree in the order of words."""
    check_within(letters, 1, MAX_LETTERS)
    check_within(degree, 0, MAX_DEGREE)
    check_within(many, 0, min(MAX_TOLD, number_of_products(letters, degree)))
    return tuple(products_from(letters, degree, 0, many))


def products_from(letters, degree, place, many):
    """The list of so many products of the degree, from a word place on."""
    found = []
    while len(found) < many:
        found.append(following(found[-1]) if found else told_product(letters, degree, place))
    return found


def check_share(number, degree):
    """Refuse numbers and degrees out of their bounds."""
    check_within(number, 0, MOST_FAR)
    check_within(degree, 1, MAX_DEGREE)


def shares(number, degree):
    """The pairs (k, i), i from the degree down, whose binomials add up to the number."""
    check_share(number, degree)
    return shares_of(number, degree)


def growth_bound(number, degree):
    """How many products a lot can leave one degree higher that leaves this number at the degree."""
    check_share(number, degree)
    return bound_of(number, degree)


def check_row(value, longest):
    """Refuse all but the tuples of one to `longest` integers from 0 on."""
    if not isinstance(value, tuple) or not 1 <= len(value) <= longest:
        raise InvalidRow("no tuple of so many integers")
    if not all([is_passed(number) and number >= 0 for number in value]):
        raise InvalidRow("not all are integers from 0 on")


def row_bar(letters, row):
    """The least degree up to which the row is that of no lot; None if it is that of a lot."""
    check_within(letters, 1, MAX_LETTERS)
    check_row(row, MOST_IN_ROW)
    if max(row) > MOST_FAR:
        raise InvalidRow("an integer above 1,000,000")
    return first_wrong(letters, row)


def first_lot(letters, row):
    """The lot that has all but the last products of each degree, so many as the row tells."""
    check_within(letters, 1, MOST_FIRST_LETTERS)
    check_row(row, MAX_ROW)
    bar = first_wrong(letters, row)
    if bar is not None:
        raise Refused(("row", bar))
    members = first_members(letters, row)
    if members is None:
        raise TooMany(MAX_MEMBERS)
    return made_lot(letters, members)


def first_members(letters, counts):
    """The least members of the first lot that leaves these counts; None if there are too many.

    In each degree the products ahead are multiples of those of the degree
    before, and the last ones are left: new members stand between the two.
    """
    if counts[0] == 0:
        return (nothing(letters),)
    members = []
    for degree in range(1, len(counts)):
        most = most_at(letters, counts, degree)
        if len(members) + most - counts[degree] > MAX_MEMBERS:
            return None
        place = number_of_products(letters, degree) - most
        members.extend(products_from(letters, degree, place, most - counts[degree]))
    return tuple(sorted(members))


def counts_to(lot, last):
    """The list of the numbers of products that the lot leaves, to the degree `last`."""
    series = series_of(lot.members)
    return [left_number(series, lot.letters, degree) for degree in range(last + 1)]


def is_met(lot, degree):
    """Whether the lot leaves one degree higher as many products as it can."""
    check_lot(lot)
    check_within(degree, 1, MAX_DEGREE)
    return is_met_at(counts_to(lot, degree + 1), degree)


def is_met_at(counts, degree):
    """Whether the count behind the degree is the growth bound."""
    return counts[degree + 1] == bound_of(counts[degree], degree)


def met_from(lot):
    """The least degree, at least 1, from which on the lot leaves as many products as it can."""
    check_lot(lot)
    return least_met(lot)


def least_met(lot):
    """The degree of `met_from`.

    Behind the degrees of all least members one degree at which the bound is met
    shows it for all greater ones; ahead of them it shows nothing.
    """
    counts = counts_to(lot, MAX_DEGREE + 1)
    for degree in range(max((1,) + lot.degrees), MAX_DEGREE + 1):
        if is_met_at(counts, degree):
            return degree
    raise TooMany(MAX_DEGREE)


def like_members(lot):
    """The least members of the first lot with the same counts; None if there are too many."""
    check_lot(lot)
    if lot.letters > MOST_FIRST_LETTERS:
        raise InvalidOperation("a lot in more than four letters")
    return first_members(lot.letters, counts_to(lot, least_met(lot)))


def first_lot_like(lot):
    """The first lot that leaves as many products of each degree as the lot does."""
    members = like_members(lot)
    if members is None:
        raise TooMany(MAX_MEMBERS)
    if max([max(member) for member in members], default=0) > MAX_MEMBER_EXPONENT:
        raise TooMany(MAX_MEMBER_EXPONENT)
    return made_lot(lot.letters, members)


def is_first_lot(lot):
    """Whether the lot is the first one with its counts."""
    return like_members(lot) == lot.members
