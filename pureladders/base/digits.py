"""Numbers in texts."""

DIGITS = "0123456789"


def told_number(text, most):
    """The integer that one to `most` digits tell; None for every other text."""
    if not 1 <= len(text) <= most or not all([letter in DIGITS for letter in text]):
        return None
    return int(text)
