"""Products of letters, told by their exponents."""

from pureladders.base.checks import check_within
from pureladders.errors import InvalidProduct, Refused, TooMany
from pureladders.lot.exponents import added, are_exponents, fits, greater, lesser, taken_off

MAX_LETTERS = 8
MAX_EXPONENT = 60
MAX_LISTED_DEGREE = 12


def check_product(value, letters):
    """Refuse all but the products in so many letters."""
    if not are_exponents(value, letters, MAX_EXPONENT):
        raise InvalidProduct("no product in so many letters")


def check_any_product(value):
    """Refuse all but the products, in any number of letters."""
    if not isinstance(value, tuple) or not 1 <= len(value) <= MAX_LETTERS:
        raise InvalidProduct("no tuple of one to eight exponents")
    check_product(value, len(value))


def check_both(one, other):
    """Refuse all but two products in equally many letters."""
    check_any_product(one)
    check_product(other, len(one))


def degree_of(product):
    """The sum of the exponents."""
    check_any_product(product)
    return sum(product)


def is_product(letters, value):
    """Whether the value is a product in so many letters."""
    check_within(letters, 1, MAX_LETTERS)
    return are_exponents(value, letters, MAX_EXPONENT)


def does_divide(one, other):
    """Whether no exponent of `one` is greater than that of `other`."""
    check_both(one, other)
    return fits(one, other)


def multiple_of(one, other):
    """The common multiple of two products."""
    check_both(one, other)
    return greater(one, other)


def divisor_of(one, other):
    """The common divisor of two products."""
    check_both(one, other)
    return lesser(one, other)


def product_times(one, other):
    """The product of two products."""
    check_both(one, other)
    both = added(one, other)
    if max(both) > MAX_EXPONENT:
        raise TooMany(MAX_EXPONENT)
    return both


def quotient_of(one, other):
    """The product that makes `one` together with `other`."""
    check_both(one, other)
    if not fits(other, one):
        raise Refused(("rest",))
    return taken_off(one, other)


def all_products(letters, degree):
    """Yield the products of a degree, greater tuples ahead of less ones."""
    check_within(letters, 1, MAX_LETTERS)
    check_within(degree, 0, MAX_LISTED_DEGREE)
    product = (degree,) + (0,) * (letters - 1)
    while product is not None:
        yield product
        product = following(product)


def following(product):
    """The next product of the degree in the order of words; None behind the last one.

    One of the last letter that can be made later goes to the letter behind it,
    and all that stood at the end comes along.
    """
    last = len(product) - 1
    at = last - 1
    while at >= 0 and product[at] == 0:
        at -= 1
    if at < 0:
        return None
    rest = product[last] + 1
    return product[:at] + (product[at] - 1, rest) + (0,) * (last - at - 1)
