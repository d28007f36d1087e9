"""The text of a family."""


def family_text(corners, members):
    """The text of a family on so many corners, told by its greatest members."""
    words = " ".join([set_text(chosen) for chosen in members]) or "none"
    return f"{words} on {corners}"


def set_text(chosen):
    """The corners of a set without blanks; a dash for the empty set."""
    return "".join([str(corner) for corner in chosen]) or "-"
