"""What any value is: a number, a name, a sign, a value or a row."""

DIGITS = "0123456789"
LETTERS = "abcdefghijklmnopqrstuvwxyz"
MOST_LETTERS = 8


def is_number(value, least, most):
    # True and False are integers for Python, but no numbers here.
    return isinstance(value, int) and not isinstance(value, bool) and least <= value <= most


def is_name(value):
    if not isinstance(value, str) or not 1 <= len(value) <= MOST_LETTERS:
        return False
    return all([letter in LETTERS for letter in value])


def is_sign(value, signs):
    return is_number(value, 0, signs - 1)


def is_value(value, signs):
    return value is None or is_sign(value, signs)


def is_row(value, inputs, signs):
    if not isinstance(value, tuple) or len(value) != inputs:
        return False
    return all([is_value(item, signs) for item in value])
