"""Lots of a list of rows, its columns, and its lists of pairs."""

from neverboxes.checks import MOST_INPUTS
from neverboxes.errors import InvalidRow, TooMany, UnknownLot
from neverboxes.rows import is_below
from neverboxes.values import is_number, is_row

MOST_ROWS = 7
MOST_PICKS = 50000


def is_lot(value, count):
    if not isinstance(value, tuple) or len(value) == 0:
        return False
    if not all([is_number(row, 0, count - 1) for row in value]):
        return False
    return all([row < after for row, after in zip(value, value[1:])])


def is_column(value, count, signs):
    return is_row(value, count, signs)


def every_lot(count):
    lots = []
    layer = [(row,) for row in range(count)]
    while len(layer) > 0:
        lots.extend(layer)
        layer = [lot + (row,) for lot in layer for row in range(lot[-1] + 1, count)]
    return lots


def is_pair(value, count):
    if not isinstance(value, tuple) or len(value) != 2:
        return False
    lot, reach = value
    return is_lot(lot, count) and is_lot(reach, count) and all([row in reach for row in lot])


def is_ahead(lot, other):
    """Whether a lot stands ahead of another one in lot order."""
    return (len(lot), lot) < (len(other), other)


def is_pairs(value, count):
    if not isinstance(value, (list, tuple)) or not all([is_pair(pair, count) for pair in value]):
        return False
    return all([is_ahead(pair[0], after[0]) for pair, after in zip(value, value[1:])])


def answers_on(column, lot):
    return all([column[row] is not None for row in lot])


def alike_on(column, lot):
    sign = column[lot[0]]
    return sign is not None and all([column[row] == sign for row in lot])


def keeps_pair(column, pair):
    lot, reach = pair
    return not answers_on(column, lot) or alike_on(column, reach)


def first_broken(column, pairs):
    for lot, reach in pairs:
        if not keeps_pair(column, (lot, reach)):
            one = lot[0]
            return (lot, one, [row for row in reach if column[row] != column[one]][0])
    return None


def kept_columns(pairs, choices):
    """The list, in row order, of the columns that keep all pairs and have at each row one of its choices."""
    columns = [()]
    for row, values in enumerate(choices):
        # A pair can be checked as soon as the last row of its reach has a value, and none breaks one of a single row.
        ending = [(lot, reach) for lot, reach in pairs if reach[-1] == row and len(reach) > 1]
        grown = [column + (value,) for column in columns for value in values]
        columns = [column for column in grown if first_broken(column, ending) is None]
    return columns


def check_rows(rows, signs):
    if not isinstance(rows, (list, tuple)) or len(rows) == 0:
        raise InvalidRow(-1)
    if len(rows) > MOST_ROWS:
        raise TooMany("rows", len(rows))
    if not isinstance(rows[0], tuple):
        raise InvalidRow(0)
    inputs = len(rows[0])
    for at, row in enumerate(rows):
        if not is_row(row, inputs, signs):
            raise InvalidRow(at)
    if inputs > MOST_INPUTS:
        raise TooMany("inputs", inputs)


def number_of_picks(many, box):
    """The number of [39]: that of the picks of a box for all lots of so many rows, and one more."""
    picks = 1
    for _ in range(many):
        picks = picks * (len(box.table) + 1)
    return picks


def check_picks(many, stock):
    for box in stock.boxes():
        picks = number_of_picks(many, box)
        if picks > MOST_PICKS:
            raise TooMany("picks", picks)


def is_left_out(rows, lot, number):
    """Whether the thinned lot leaves a row out; of several equal rows it keeps the first one."""
    lower = [other for other in lot if is_below(rows[other], rows[number])]
    return any([other < number or not is_below(rows[number], rows[other]) for other in lower])


def thinned(rows, lot):
    if not is_lot(lot, len(rows)):
        raise UnknownLot(lot)
    return tuple([number for number in lot if not is_left_out(rows, lot, number)])
