"""Checks that several modules share: of signs, of inputs, and of texts line by line."""

from neverboxes.errors import InvalidInputs, InvalidSigns, InvalidText, TooMany
from neverboxes.values import is_number

MOST_TABLE_INPUTS = {2: 5, 3: 4}
MOST_INPUTS = 8


def check_signs(signs):
    if not is_number(signs, 2, 3):
        raise InvalidSigns(signs)


def most_table_inputs(signs):
    return MOST_TABLE_INPUTS[signs]


def check_table_inputs(inputs, signs):
    if not isinstance(inputs, int) or isinstance(inputs, bool) or inputs < 0:
        raise InvalidInputs(inputs)
    if inputs > most_table_inputs(signs):
        raise TooMany("inputs", inputs)


def check_inputs(inputs):
    """Checks the number of inputs of what is no table."""
    if not is_number(inputs, 0, MOST_INPUTS):
        raise InvalidInputs(inputs)


def check_lines(text, reading):
    """Hands the lines of a text to a reading, one by one.

    Its method take tells the word for what is wrong with a line, or the empty string if nothing is;
    its attribute over tells whether it has taken the last line of the form.
    """
    if not isinstance(text, str):
        raise InvalidText(0, "form")
    lines = text.split("\n")
    rest = lines.pop()
    for at, line in enumerate(lines):
        why = reading.take(line)
        if why != "":
            raise InvalidText(at, why)
    if rest != "":
        raise InvalidText(len(lines), "form")
    if not reading.over:
        raise InvalidText(len(lines), "missing")
