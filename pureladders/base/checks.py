"""What kinds of integers are taken, and the check that most functions begin with."""

from pureladders.errors import InvalidNumber

BEYOND_DIGITS = 10 ** 60


def is_number(value):
    """Whether the value is an integer of any length: True and False are none."""
    return isinstance(value, int) and not isinstance(value, bool)


def is_passed(value):
    """Whether the value is an integer of at most sixty digits."""
    return is_number(value) and -BEYOND_DIGITS < value < BEYOND_DIGITS


def is_within(value, least, most):
    """Whether the value is an integer within the bounds."""
    return is_number(value) and least <= value <= most


def are_all_passed(value):
    """Whether the value is a tuple of integers of at most sixty digits."""
    return isinstance(value, tuple) and all([is_passed(entry) for entry in value])


def check_within(value, least, most):
    """Refuse all but the integers within the bounds."""
    if not is_within(value, least, most):
        raise InvalidNumber(value)


def check_passed(value):
    """Refuse all but the integers of at most sixty digits."""
    if not is_passed(value):
        raise InvalidNumber(value)
