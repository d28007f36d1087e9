"""The text of a table, and what it tells.

Reading is lenient about numbers and sequence: whoever reads a text writes
again what was read, and compares.
"""

from pureladders.base.digits import told_number
from pureladders.base.ratios import lowest_pair, pair_text

MAX_DIGITS = 60
NO_ENTRIES = "0"


def table_text(entries, bottom):
    """The text of a table with these integers, divided by the bottom; the places ascend."""
    parts = {}
    for step, degree in entries:
        fraction = pair_text(lowest_pair(entries[step, degree], bottom))
        parts[step] = parts.get(step, []) + [f"{fraction} at {degree}"]
    lines = [step_text(step, parts[step]) for step in parts]
    return "; ".join(lines) or NO_ENTRIES


def step_text(step, parts):
    """The text of a step with its fractions."""
    body = ", ".join(parts)
    return f"{step}: {body}"


def told_fractions(text):
    """The dict from pairs (step, degree) to pairs (top, bottom) that a text tells; None if it tells none."""
    if text == NO_ENTRIES:
        return {}
    found = {}
    for line in text.split("; "):
        first, _, rest = line.partition(": ")
        for part in rest.split(", "):
            fraction, _, last = part.partition(" at ")
            step, degree = told_integer(first), told_integer(last)
            pair = told_pair(fraction)
            if step is None or degree is None or pair is None:
                return None
            found[step, degree] = pair
    return found


def told_pair(text):
    """The integers above and below a slash; the lower one is 1 without a slash."""
    first, slash, last = text.partition("/")
    top, bottom = told_integer(first), told_integer(last) if slash else 1
    if top is None or bottom is None or bottom == 0:
        return None
    return top, bottom


def told_integer(text):
    """The integer of at most sixty digits that a text tells; None if it tells none."""
    number = told_number(text.removeprefix("-"), MAX_DIGITS)
    if number is None or not text.startswith("-"):
        return number
    return -number
