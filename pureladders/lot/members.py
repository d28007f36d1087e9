"""Which of some products divide others, which ones are least, and their common multiples."""

from pureladders.lot.exponents import fits, greater, nothing


def is_divided(product, products):
    """Whether one of the products divides the product."""
    for one in products:
        if fits(one, product):
            return True
    return False


def is_least_of(product, products):
    """Whether none of the products divides the product, but for itself."""
    for one in products:
        if one != product and fits(one, product):
            return False
    return True


def least_of(products, most=None):
    """The ascending list of those products that no other one divides.

    A product that divides another one is the less one of both as a tuple.
    So only those ahead have to be asked, and all that are kept are least.
    With `most` the list ends behind so many: a power of a lot can have some
    ten thousand products, and a few least ones tell that there are too many.
    """
    kept = []
    for product in sorted(set(products)):
        if len(kept) == most:
            break
        if not is_divided(product, kept):
            kept.append(product)
    return kept


def common_multiples(products, letters, most):
    """The ascending list of the common multiples of all sets of products; None if there are more than `most`."""
    found = [nothing(letters)]
    for product in products:
        # A product that is one of those found adds nothing: with two of them they have their common multiple.
        if product not in found:
            found = sorted(set(found) | {greater(one, product) for one in found})
        if len(found) > most:
            return None
    return found
