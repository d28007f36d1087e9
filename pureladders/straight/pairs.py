"""Lots of pairs of letters: their webs, and papers that show whether they are straight."""

from pureladders.base.checks import is_within
from pureladders.errors import InvalidOperation
from pureladders.straight.orders import check_members
from pureladders.straight.webs import are_all_tied, is_ring, order_of, ring_of, ties_of


def check_pairs(lot):
    """Refuse all but the lots whose least members are products of two unlike letters."""
    check_members(lot)
    if not lot.is_squarefree or lot.degrees[0] != 2 or lot.degrees[-1] != 2:
        raise InvalidOperation("no lot of pairs")


def left_pairs(lot):
    """The ascending list of the pairs of letters whose product is left."""
    taken = [tuple([at for at, exponent in enumerate(member) if exponent > 0]) for member in lot.members]
    pairs = [(low, high) for low in range(lot.letters) for high in range(low + 1, lot.letters)]
    return [pair for pair in pairs if pair not in taken]


def pair_web(lot):
    """The ascending tuple of the pairs of tied letters."""
    check_pairs(lot)
    return tuple(left_pairs(lot))


def web_paper(lot):
    """Any paper of the web: an order of all letters, or a ring of some of them."""
    check_pairs(lot)
    ties = ties_of(left_pairs(lot), lot.letters)
    ring = ring_of(ties)
    return ("order", order_of(ties)) if ring is None else ("ring", ring)


def is_web_paper(lot, value):
    """Whether the value is a paper of the web."""
    check_pairs(lot)
    if not isinstance(value, tuple) or len(value) != 2:
        return False
    word, letters = value
    if not are_letters(letters, lot.letters):
        return False
    ties = ties_of(left_pairs(lot), lot.letters)
    if word == "ring":
        return is_ring(letters, ties)
    return word == "order" and len(letters) == lot.letters and is_order_paper(letters, ties)


def are_letters(value, many):
    """Whether the value is a tuple of indices of letters, each once."""
    if not isinstance(value, tuple) or not all([is_within(letter, 0, many - 1) for letter in value]):
        return False
    return len(set(value)) == len(value)


def is_order_paper(letters, ties):
    """Whether for each letter those later ones that are tied to it are tied to one another."""
    for at, letter in enumerate(letters):
        later = [other for other in letters[at + 1:] if other in ties[letter]]
        if not are_all_tied(later, ties):
            return False
    return True
