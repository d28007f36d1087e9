"""Sums of columns with numbers of at least 0, or weights that show that there are none.

The simplex method with whole numbers: all entries are determinants, divided by
the last pivot (so the division in `turned` has no rest). Each row has a bar, a
column of its own, that costs 1; what the bars cost in the end tells the weights.
"""

from pureladders.base.integers import greatest_divisor


def weights_outside(columns, sides):
    """Weights of the rows that have no column below 0, and the sides below 0; None if there are none.

    Sides are at least 0. There are no weights exactly if the sides are a sum of
    columns with numbers of at least 0. The weights are determinants of entries
    of columns and of 1, whatever the sides are, without a common divisor.
    """
    many, height = len(columns), len(sides)
    rows = [[column[at] for column in columns] + unit_row(at, height) + [side] for at, side in enumerate(sides)]
    costs = [-sum(entries) for entries in zip(*rows)]
    costs[many:many + height] = [0] * height
    table = rows + [costs]
    basis = [many + at for at in range(height)]
    divisor = 1
    place = next_place(table[-1], many)
    # The least column and the least row in each turn: so no turn comes twice.
    while place is not None:
        at = next_row(table, basis, place)
        table, divisor = turned(table, at, place, divisor), table[at][place]
        basis[at] = place
        place = next_place(table[-1], many)
    if table[-1][-1] == 0:
        return None
    weights = [cost - divisor for cost in table[-1][many:many + height]]
    shared = greatest_divisor(weights)
    return [weight // shared for weight in weights]


def unit_row(at, height):
    """The row of the bars with 1 at a place."""
    return [1 if place == at else 0 for place in range(height)]


def next_place(costs, many):
    """The least column whose cost is below 0; None if there is none. Bars do not come back."""
    for place in range(many):
        if costs[place] < 0:
            return place
    return None


def next_row(table, basis, place):
    """The row whose side allows the least number for the column, and of several the one of the least column.

    There is one: what all bars cost together cannot get below 0.
    """
    best = None
    for at, member in enumerate(basis):
        row = table[at]
        if row[place] > 0:
            if best is None:
                best = at
            else:
                over, under = row[-1] * table[best][place], table[best][-1] * row[place]
                if over < under or over == under and member < basis[best]:
                    best = at
    return best


def turned(table, at, place, divisor):
    """The table behind an elimination of the column in all rows but the one of the pivot."""
    pivot = table[at]
    high = pivot[place]
    found = []
    for index, row in enumerate(table):
        if index != at:
            low = row[place]
            row = [(high * under - low * over) // divisor for over, under in zip(pivot, row)]
        found.append(row)
    return found
