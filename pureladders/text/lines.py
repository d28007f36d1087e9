"""Lines of integers with single blanks between them."""

from pureladders.base.digits import told_number
from pureladders.base.ratios import MAX_DIGITS


def line_of(numbers):
    """The line of some integers."""
    return " ".join([str(number) for number in numbers])


def told_numbers(line):
    """The tuple of the integers of a line; None if it has other parts, or none."""
    numbers = [told_integer(word) for word in line.split(" ")]
    if None in numbers:
        return None
    return tuple(numbers)


def told_integer(word):
    """The integer of at most sixty digits that has just this text; None if there is none."""
    number = told_number(word.removeprefix("-"), MAX_DIGITS)
    if number is None:
        return None
    if word.startswith("-"):
        number = -number
    return number if str(number) == word else None
