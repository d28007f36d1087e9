"""Tables of numbers that come in pairs: each one at a step, and at the next step in the same degree."""

from pureladders.table.tables import MAX_STEP


def shared_numbers(numbers):
    """The dict from the places, ascending, to those numbers other than 0 that add up to the given ones in pairs.

    The given ones at (i, j) are the sums of the shared ones at (i, j) and at (i - 1, j); steps go to 8.
    """
    found = {}
    for degree in sorted({degree for _, degree in numbers}):
        shared = 0
        for step in range(MAX_STEP + 1):
            shared = numbers.get((step, degree), 0) - shared
            if shared != 0:
                found[step, degree] = shared
    return {place: found[place] for place in sorted(found)}
