"""Rows: how they are ordered, compared, joined, written and read."""

NO_INPUTS = "."
NEVER = "~"
ROW_LETTERS = "~012"


def is_below(one, other):
    if len(one) != len(other):
        return False
    return all([value is None or value == above for value, above in zip(one, other)])


def rows_fit(one, other):
    if len(one) != len(other):
        return False
    return all([value is None or against is None or value == against for value, against in zip(one, other)])


def joined(one, other):
    if not rows_fit(one, other):
        return None
    return tuple([against if value is None else value for value, against in zip(one, other)])


def common(one, other):
    return tuple([value if value == against else None for value, against in zip(one, other)])


def row_rank(row):
    """What a row is sorted by: Python orders no None, so it stands as -1."""
    return tuple([-1 if value is None else value for value in row])


def in_order(rows):
    return sorted(rows, key=row_rank)


def rows_above(row, signs):
    """The list of all rows above a row, itself among them, in row order."""
    rows = [()]
    for value in row:
        choices = [value]
        if value is None:
            choices = [None, *list(range(signs))]
        rows = [start + (choice,) for start in rows for choice in choices]
    return rows


def every_row(inputs, *, signs=2):
    return rows_above((None,) * inputs, signs)


def next_below(row):
    """The list of the rows in which one answer of a row is left out."""
    return [row[:at] + (None,) + row[at + 1:] for at, value in enumerate(row) if value is not None]


def next_above(row, signs):
    """The list of the rows in which one more input of a row answers."""
    places = [at for at, value in enumerate(row) if value is None]
    return [row[:at] + (sign,) + row[at + 1:] for at in places for sign in range(signs)]


def answers_in(row):
    """The number of inputs that answer in a row."""
    return len(row) - row.count(None)


def row_text(row):
    if len(row) == 0:
        return NO_INPUTS
    return "".join([NEVER if value is None else str(value) for value in row])


def read_row(text, *, signs=2):
    if not isinstance(text, str) or text == "":
        return None
    if text == NO_INPUTS:
        return ()
    letters = ROW_LETTERS[:signs + 1]
    if not all([letter in letters for letter in text]):
        return None
    return tuple([None if letter == NEVER else int(letter) for letter in text])
