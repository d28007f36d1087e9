"""Lots: sets of products that have all multiples of their members."""

from pureladders.base.checks import check_within
from pureladders.errors import InvalidLot, InvalidOperation, ParseError, TooMany
from pureladders.lot.exponents import added, are_exponents, greater, nothing, taken_off
from pureladders.lot.members import common_multiples, is_divided, is_least_of, least_of
from pureladders.lot.products import MAX_EXPONENT, MAX_LETTERS, check_product
from pureladders.lot.words import lot_text, told_members

MAX_MEMBER_EXPONENT = 8
MAX_MEMBERS = 24
MAX_PASSED = 200
MAX_POWER = 4
MAX_MULTIPLES = 200


class Lot:
    """The least lot that has all products of `members`. It never changes."""

    def __init__(self, letters, members):
        check_within(letters, 1, MAX_LETTERS)
        if not are_products(members, letters):
            raise InvalidLot("no tuple of at most 200 products in so many letters")
        self._letters = letters
        self._members = limited_members(members)

    @classmethod
    def read(cls, text, letters):
        """The lot in so many letters whose `str` the text is."""
        if not isinstance(text, str):
            raise ParseError(None)
        check_within(letters, 1, MAX_LETTERS)
        members = told_members(text, letters)
        if members is None or len(members) > MAX_MEMBERS:
            raise ParseError(0)
        if members != least_of(members) or lot_text(members) != text:
            raise ParseError(0)
        return made_lot(letters, tuple(members))

    @property
    def letters(self):
        """How many letters there are."""
        return self._letters

    @property
    def members(self):
        """The ascending tuple of the least members."""
        return self._members

    @property
    def degrees(self):
        """The degrees of the least members, sorted, with repeats."""
        return tuple(sorted([sum(member) for member in self._members]))

    @property
    def is_all(self):
        """Whether the lot has all products."""
        return self._members == (nothing(self._letters),)

    @property
    def is_squarefree(self):
        """Whether no least member has an exponent above 1."""
        return all([max(member) <= 1 for member in self._members])

    def __add__(self, other):
        if not isinstance(other, Lot):
            return NotImplemented
        check_letters(self, other)
        return made_lot(self._letters, limited_members(self._members + other.members))

    def __mul__(self, other):
        if not isinstance(other, Lot):
            return NotImplemented
        check_letters(self, other)
        both = [added(one, two) for one in self._members for two in other.members]
        return made_lot(self._letters, limited_members(both))

    def meet(self, other):
        """The lot of the products that are in both."""
        if not isinstance(other, Lot) or other.letters != self._letters:
            raise InvalidLot("no lot in the same number of letters")
        both = [greater(one, two) for one in self._members for two in other.members]
        return made_lot(self._letters, limited_members(both))

    def quotient(self, product):
        """The lot of all products whose product by `product` is in this one."""
        check_product(product, self._letters)
        left = [taken_off(member, product) for member in self._members]
        return made_lot(self._letters, limited_members(left))

    def power(self, many):
        """The lot multiplied by itself so many times.

        The powers on the way may have more least members than a lot can have,
        and the last one fewer: so it is limited alone.
        """
        check_within(many, 0, MAX_POWER)
        found = [nothing(self._letters)]
        for _ in range(many):
            found = sorted({added(one, member) for one in found for member in self._members})
        return made_lot(self._letters, limited_members(found))

    def __contains__(self, value):
        if not are_exponents(value, self._letters, MAX_EXPONENT):
            return False
        return is_divided(value, self._members)

    def __eq__(self, other):
        return isinstance(other, Lot) and self._letters == other._letters and self._members == other._members

    def __bool__(self):
        return bool(self._members)

    def __len__(self):
        return len(self._members)

    def __iter__(self):
        return iter(self._members)

    def __str__(self):
        return str(lot_text(self._members))


def are_products(value, letters):
    """Whether a lot can be made of the value: at most 200 products, exponents to 8."""
    if not isinstance(value, tuple) or len(value) > MAX_PASSED:
        return False
    return all([are_exponents(member, letters, MAX_MEMBER_EXPONENT) for member in value])


def made_lot(letters, members):
    """The lot with these least members, an ascending tuple, whatever their exponents."""
    lot = Lot(letters, ())
    lot._members = members
    return lot


def check_lot(value):
    """Refuse all but the lots."""
    if not isinstance(value, Lot):
        raise InvalidLot("no lot")


def check_letters(one, other):
    """Refuse two lots in unlike numbers of letters as operands."""
    if one.letters != other.letters:
        raise InvalidOperation("lots in unlike numbers of letters")


def limited_members(products):
    """The least ones of the products, as a tuple, if a lot can have them."""
    if has_great_exponent(products):
        raise TooMany(MAX_EXPONENT)
    members = least_of(products, MAX_MEMBERS + 1)
    if len(members) > MAX_MEMBERS:
        raise TooMany(MAX_MEMBERS)
    return tuple(members)


def has_great_exponent(products):
    """Whether a product that no other one divides has an exponent above 60."""
    for product in products:
        if max(product) > MAX_EXPONENT and is_least_of(product, products):
            return True
    return False


def multiples(lot):
    """The ascending tuple of the common multiples of all sets of least members."""
    check_lot(lot)
    found = common_multiples(lot.members, lot.letters, MAX_MULTIPLES)
    if found is None:
        raise TooMany(MAX_MULTIPLES)
    return tuple(found)
