"""What a name is, and what a number is."""

LETTERS = "abcdefghijklmnopqrstuvwxyz"
LONGEST_NAME = 4


def is_name(value):
    """Whether any value is a name: 1 to 4 lowercase letters."""
    if not isinstance(value, str) or not 1 <= len(value) <= LONGEST_NAME:
        return False
    return all([letter in LETTERS for letter in value])


def is_integer(value):
    """Whether any value is a number of any size."""
    # For Python True and False are integers, too.
    return isinstance(value, int) and not isinstance(value, bool)


def is_number(value, least, most):
    """Whether any value is a number from least to most."""
    return is_integer(value) and least <= value <= most
