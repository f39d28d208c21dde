"""Names, numbers and the words for lots and growths."""

LETTERS = "abcdefghijklmnopqrstuvwxyz"
LONGEST_NAME = 6

LOTS = ("learn", "judge")
GROWTHS = ("end", "late", "any")


def is_name(value):
    """Whether any value is a name of 1 to 6 lowercase letters."""
    if not isinstance(value, str) or not 1 <= len(value) <= LONGEST_NAME:
        return False
    return all([letter in LETTERS for letter in value])


def is_number(value, least, most):
    """Whether any value is a number from least to most."""
    # True and False are integers for Python, but no numbers here.
    if not isinstance(value, int) or isinstance(value, bool):
        return False
    return least <= value <= most


def is_column(value):
    """Whether any value has the form of a column: a name, or two with a point between."""
    if not isinstance(value, str):
        return False
    parts = value.split(".")
    return len(parts) <= 2 and all([is_name(part) for part in parts])
