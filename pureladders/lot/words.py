"""The text of the least members of a lot, and what it tells.

Reading is lenient about numbers and sequence (x1^02 is read as x1^2): whoever
reads a text writes again what was read, and compares.
"""

from pureladders.base.digits import told_number
from pureladders.lot.exponents import nothing
from pureladders.lot.products import MAX_EXPONENT

LONGEST_EXPONENT = 2


def lot_text(members):
    """The words of the members between brackets."""
    body = ", ".join([word_of(member) for member in members])
    return f"({body})"


def word_of(product):
    """The letters of a product with their exponents; 1 for the degree 0."""
    letters = [letter_text(at, exponent) for at, exponent in enumerate(product) if exponent > 0]
    return " ".join(letters) or "1"


def letter_text(index, exponent):
    """A letter with its exponent above 0."""
    if exponent == 1:
        return f"x{index + 1}"
    return f"x{index + 1}^{exponent}"


def told_members(text, letters):
    """The products that a text in brackets tells, as a list; None if it tells none."""
    if not text.startswith("(") or not text.endswith(")"):
        return None
    if text == "()":
        return []
    members = [told_product(word, letters) for word in text[1:-1].split(", ")]
    if None in members:
        return None
    return members


def told_product(word, letters):
    """The product that a word tells; None if it tells none."""
    if word == "1":
        return nothing(letters)
    exponents = [0] * letters
    for part in word.split(" "):
        name, caret, exponent = part.partition("^")
        index = told_index(name, letters)
        number = told_exponent(exponent) if caret else 1
        if index is None or number is None:
            return None
        exponents[index] = number
    return tuple(exponents)


def told_index(name, letters):
    """The index of the letter of this name; None if there is none."""
    names = [f"x{index + 1}" for index in range(letters)]
    if name not in names:
        return None
    return names.index(name)


def told_exponent(digits):
    """The exponent that the digits tell; None for other texts, and out of its bounds."""
    exponent = told_number(digits, LONGEST_EXPONENT)
    if exponent is None or exponent > MAX_EXPONENT:
        return None
    return exponent
