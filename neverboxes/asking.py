"""The sheet for a stock without boxes: what asking one input after another can tell."""

from neverboxes.checks import check_signs
from neverboxes.lots import alike_on, answers_on, check_rows, every_lot


def columns_of_inputs(rows):
    """The list of the columns of the inputs, one for each."""
    return [tuple([row[at] for row in rows]) for at in range(len(rows[0]))]


def told_inputs(rows, lot):
    return [at for at, column in enumerate(columns_of_inputs(rows)) if answers_on(column, lot)]


def asking_pairs(rows, signs):
    check_signs(signs)
    check_rows(rows, signs)
    columns = columns_of_inputs(rows)
    pairs = []
    for lot in every_lot(len(rows)):
        told = [column for column in columns if answers_on(column, lot)]
        if all([alike_on(column, lot) for column in told]):
            reach = [row for row in range(len(rows)) if all([column[row] == column[lot[0]] for column in told])]
            pairs.append((lot, tuple(reach)))
    return pairs
