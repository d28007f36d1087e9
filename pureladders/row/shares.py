"""Sums of binomials that tell how numbers of products can grow, without bounds of the numbers."""

from pureladders.base.integers import choices


def number_of_products(letters, degree):
    """How many products of a degree there are; none of a degree below 0."""
    return choices(degree + letters - 1, letters - 1)


def shares_of(number, degree):
    """The tuple of the pairs (k, i) whose binomials add up to the number, i from the degree down."""
    found = []
    rest, beyond = number, number + degree
    while rest > 0:
        # The k fall strictly: so each one bounds the next one.
        beyond = greatest_top(rest, degree, beyond)
        found.append((beyond, degree))
        rest -= choices(beyond, degree)
        degree -= 1
    return tuple(found)


def greatest_top(number, bottom, beyond):
    """The greatest integer, less than `beyond`, whose binomial over `bottom` is at most the number.

    The binomial of `bottom` itself has to be at most the number, that of `beyond` above it.
    """
    low = bottom
    while beyond - low > 1:
        middle = (low + beyond) // 2
        if choices(middle, bottom) <= number:
            low = middle
        else:
            beyond = middle
    return low


def bound_of(number, degree):
    """The growth bound of the number at the degree."""
    return sum([choices(top + 1, bottom + 1) for top, bottom in shares_of(number, degree)])


def most_at(letters, counts, degree):
    """How many products of a degree of at least 1 a lot can leave that leaves these counts ahead of it."""
    if degree == 1:
        return letters * counts[0]
    return bound_of(counts[degree - 1], degree - 1)


def first_wrong(letters, counts):
    """The least degree at which the counts are those of no lot; None if there is none."""
    for degree, number in enumerate(counts):
        if number > (1 if degree == 0 else most_at(letters, counts, degree)):
            return degree
    return None
