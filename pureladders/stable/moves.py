"""Moves of letters in products, and what they make of products again and again."""

from pureladders.lot.members import is_divided, least_of


def last_letter(product):
    """The greatest index of a letter that stands in the product, which is of a degree above 0."""
    at = len(product) - 1
    while product[at] == 0:
        at -= 1
    return at


def moved(product, to_letter, from_letter):
    """The product with one of a letter taken away, and one of another letter put in its place."""
    exponents = list(product)
    exponents[from_letter] -= 1
    exponents[to_letter] += 1
    return tuple(exponents)


def moves_of(product, strong):
    """The list of the triples (product, s, t) of the moves of a product.

    All of them put a letter s with a less index in the place of t. Strong ones
    take any letter away, the others the last one alone.
    """
    if sum(product) == 0:
        return []
    last = last_letter(product)
    froms = [letter for letter in range(last + 1) if product[letter] > 0] if strong else [last]
    return [(product, lower, letter) for letter in froms for lower in range(letter)]


def leaving_moves(members, strong):
    """The moves of least members that lead out of the lot."""
    moves = [move for member in members for move in moves_of(member, strong)]
    return [move for move in moves if not is_divided(moved(*move), members)]


def closed_members(products, strong, most):
    """The least members of the closing, ascending; if there are more than `most`, only some that are more.

    Moves keep the degree. So the least members of a degree are what moves make
    of the products of this degree, but for multiples of those of less degrees;
    and no product of a greater degree takes a least member away.
    """
    members = []
    for degree in sorted({sum(product) for product in products}):
        given = [product for product in products if sum(product) == degree]
        waiting = [product for product in least_of(given) if not is_divided(product, members)]
        while waiting and len(members) <= most:
            made = waiting.pop()
            if not is_divided(made, members):
                members.append(made)
                waiting.extend([moved(*move) for move in moves_of(made, strong)])
    return sorted(members)
