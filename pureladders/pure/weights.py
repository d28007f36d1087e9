"""Weights that stand against a table: no pure table of a window has a weighed sum below 0, and the table has."""

from pureladders.base.checks import is_number, is_passed
from pureladders.base.cones import weights_outside
from pureladders.base.ratios import check_short, lowest_pair, pair_sum
from pureladders.errors import InvalidOperation, Refused
from pureladders.pure.degrees import check_window, distances, places_of, pure_degrees, whole_entries
from pureladders.table.tables import check_table, is_entries, is_place


def is_inside(place, last, most):
    """Whether a place lies in the window."""
    return place[0] <= last and place[1] <= most


def check_table_and_window(table, last, most):
    """Refuse all but the tables and windows, and tables with a fraction other than 0 outside the window."""
    check_table(table)
    check_window(last, most)
    if not all([is_inside(place, last, most) for place in table.entries]):
        raise Refused(("window",))


def weights_against(table, last, most):
    """Any weights on the window against the table; None if there are none."""
    check_table_and_window(table, last, most)
    entries = table.entries
    below = [place for place in entries if entries[place] < 0]
    if below:
        return {below[0]: 1}
    places = [(step, degree) for step in range(last + 1) for degree in range(most + 1)]
    wholes = [whole_entries(degrees) for degrees in pure_degrees(last, most)]
    columns = [[whole.get(place, 0) for place in places] for whole in wholes]
    weights = weights_outside(columns, [entries.get(place, 0) for place in places])
    if weights is None:
        return None
    return {place: weight for place, weight in zip(places, weights) if weight != 0}


def are_weights_of(value, last, most):
    """Whether the value is a dict from places of the window to integers of any length."""
    if not isinstance(value, dict) or not all([is_place(place) for place in value]):
        return False
    return all([is_inside(place, last, most) and is_number(value[place]) for place in value])


def is_weights(table, last, most, value):
    """Whether the value is weights on the window against the table."""
    check_table_and_window(table, last, most)
    if not are_weights_of(value, last, most) or weighed_entries(value, table) >= 0:
        return False
    return all([pure_sum(value, degrees)[0] >= 0 for degrees in pure_degrees(last, most)])


def weighed_entries(weights, table):
    """The weighed sum of a table, multiplied by its bottom."""
    entries = table.entries
    return sum([weights[place] * entries.get(place, 0) for place in weights])


def pure_sum(weights, degrees):
    """The weighed sum of a pure table."""
    total = (0, 1)
    for place, far in zip(places_of(degrees), distances(degrees)):
        total = pair_sum(total, lowest_pair(weights.get(place, 0), far))
    return total


def weighed(weights, table):
    """The sum of the fractions of the table, each multiplied by the weight of its place."""
    if not is_entries(weights):
        raise InvalidOperation("no dict from places to integers")
    check_table(table)
    total = lowest_pair(weighed_entries(weights, table), table.bottom)
    check_short([total])
    return total


def pure_sums(weights, last, most):
    """The dict from all pure degrees of the window to the weighed sums of their pure tables."""
    check_window(last, most)
    if not are_weights_of(weights, last, most) or not all([is_passed(weights[place]) for place in weights]):
        raise InvalidOperation("no weights on the window")
    sums = {degrees: pure_sum(weights, degrees) for degrees in pure_degrees(last, most)}
    check_short(list(sums.values()))
    return sums
